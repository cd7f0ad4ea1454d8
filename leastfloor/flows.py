"""Works [come, due, hours] on benches alike: how many of their hours each stretch of time can have."""

COME = 0
DUE = 1
HOURS = 2


def shares(works, benches):
    """The stretches between comes and dues, and for each work its hours in each, as many together as can be."""
    stretches = stretches_of(works)
    table = [[0] * len(stretches) for work in works]
    way = shortest_way(works, benches, stretches, table)
    while way:
        move_hours(works, benches, stretches, table, way)
        way = shortest_way(works, benches, stretches, table)
    return (stretches, table)


def stretches_of(works):
    """The stretches [begin, end] between two neighbouring moments of all comes and dues, sorted."""
    moments = sorted(set([work[COME] for work in works] + [work[DUE] for work in works]))
    return [[begin, end] for begin, end in zip(moments, moments[1:])]


def shortest_way(works, benches, stretches, table):
    """Works and stretches by turns, from a work with hours left to a stretch with room left; [] where none leads."""
    # The shortest ways of all are taken, for then few are needed, however large the hours are.
    sources = reached(works, stretches, table)
    for place in sources:
        number = place - len(works)
        if number >= 0 and stretch_room(benches, stretches, table, number) > 0:
            return way_to(sources, place, len(works))
    return []


def reached(works, stretches, table):
    """Each place that hours left over can go to, the nearest first, with the place from which they come there.

    Places are the works by their numbers and, counted on behind them, the stretches; a work with hours left over
    comes from itself. Hours go from a work to a stretch of which it may have more, and from a stretch to a work that
    has hours there, for this one can give them up and look for others.
    """
    places = [number for number in range(len(works)) if hours_left(works, table, number) > 0]
    sources = {}
    for place in places:
        sources[place] = place
    looked = 0
    while looked < len(places):
        source = places[looked]
        looked += 1
        for near in neighbours(works, stretches, table, source):
            if near not in sources:
                sources[near] = source
                places.append(near)
    return sources


def neighbours(works, stretches, table, place):
    """The places to which hours can go straight from this one."""
    many = len(works)
    if place >= many:
        return [work for work in range(many) if table[work][place - many] > 0]
    return [many + number for number in range(len(stretches)) if work_room(works, stretches, table, place, number) > 0]


def way_to(sources, place, many):
    """The works and stretches by turns, each by its own number, by which hours come to this place."""
    places = [place]
    while sources[places[-1]] != places[-1]:
        places.append(sources[places[-1]])
    return [each if each < many else each - many for each in reversed(places)]


def move_hours(works, benches, stretches, table, way):
    """Lay as many hours along the way as can be: each work gains in the stretch behind it, and loses ahead of it."""
    gains = list(zip(way[0::2], way[1::2]))
    losses = list(zip(way[2::2], way[1::2]))
    amounts = [hours_left(works, table, way[0]), stretch_room(benches, stretches, table, way[-1])]
    amounts.extend([work_room(works, stretches, table, work, number) for work, number in gains])
    amounts.extend([table[work][number] for work, number in losses])
    amount = min(amounts)
    for work, number in gains:
        table[work][number] += amount
    for work, number in losses:
        table[work][number] -= amount


def hours_left(works, table, work):
    """The hours that the work wants and has in no stretch."""
    return works[work][HOURS] - sum(table[work])


def work_room(works, stretches, table, work, number):
    """How many more hours the work may have in the stretch of this number."""
    begin = stretches[number][0]
    end = stretches[number][1]
    if begin < works[work][COME] or end > works[work][DUE]:
        return 0
    return end - begin - table[work][number]


def stretch_room(benches, stretches, table, number):
    """How many more hours the benches may have in the stretch of this number."""
    length = stretches[number][1] - stretches[number][0]
    return length * benches - sum([row[number] for row in table])
