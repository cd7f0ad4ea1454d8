"""Open floors, tables of the hours of each hand at each bench: loads, the least end, and phases that reach it."""


def loads(table):
    """The sums of the hands' rows and the sums of the benches' columns."""
    benches = len(table[0]) if table else 0
    columns = [sum([row[bench] for row in table]) for bench in range(benches)]
    return ([sum(row) for row in table], columns)


def open_end(table):
    """The greatest load, 0 where there is none."""
    sums = loads(table)
    return max(sums[0] + sums[1], default=0)


def phases(table):
    """Lists [hours, pairs], in each of which no hand and no bench is twice, and which take the least end together."""
    left = [list(row) for row in table]
    rest = open_end(table)
    told = []
    while rest > 0:
        pairs = urgent_pairs(left, rest)
        hours = longest_hours(left, rest, pairs)
        for hand, bench in pairs:
            left[hand][bench] -= hours
        rest -= hours
        told.append([hours, pairs])
    return told


def urgent_pairs(left, rest):
    """Pairs [hand, bench] with hours left, among which is each hand and bench whose load is the whole rest."""
    takers = taker_of_each(offers(left, rest))
    benches = len(left[0])
    pairs = [[takers[bench], bench] for bench in range(benches) if takers[bench] < len(left)]
    return sorted(pairs)


def offers(left, rest):
    """What each hand, and behind the hands each bench's stand-in, may take: a bench, or a hand's stand-in.

    A hand takes its own stand-in, and a bench is taken by its own, where it waits: so only one that has less work than
    the rest may do that. Stand-ins take one another freely. There is a choice in which all are taken: let the bench's
    stand-in take the hand's for as many hours as the hand has there, and each one its own for the hours that it waits;
    then each takes, and is taken, for the whole rest, and such a table always has a choice of one in each row.
    """
    sums = loads(left)
    hands = len(sums[0])
    benches = len(sums[1])
    told = []
    for hand, load in enumerate(sums[0]):
        told.append([bench for bench in range(benches) if left[hand][bench] > 0])
        if load < rest:
            told[hand].append(benches + hand)
    for bench, load in enumerate(sums[1]):
        told.append([benches + hand for hand in range(hands)])
        if load < rest:
            told[hands + bench].append(bench)
    return told


def taker_of_each(offered):
    """For each thing its taker, where each taker takes one thing that it is offered."""
    takers = {}
    for taker in range(len(offered)):
        take_one(offered, taker, takers, {})
    return takers


def take_one(offered, taker, takers, asked):
    """Whether the taker is given a thing, perhaps one whose taker can take another thing, not asked for yet."""
    for thing in offered[taker]:
        if thing in asked:
            continue
        asked[thing] = True
        if thing not in takers or take_one(offered, takers[thing], takers, asked):
            takers[thing] = taker
            return True
    return False


def longest_hours(left, rest, pairs):
    """How long a phase can be: none of its pairs runs out, and no one else comes to have more work than the rest."""
    sums = loads(left)
    hands = [pair[0] for pair in pairs]
    benches = [pair[1] for pair in pairs]
    bounds = [left[pair[0]][pair[1]] for pair in pairs]
    bounds.extend([rest - load for hand, load in enumerate(sums[0]) if hand not in hands])
    bounds.extend([rest - load for bench, load in enumerate(sums[1]) if bench not in benches])
    return min(bounds)
