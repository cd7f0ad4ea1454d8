"""Works [come, hours, tail] on one bench: the plan by greatest tails, its end, and the reason for it."""

from leastfloor.planrows import WORK, joined, last_moment

COME = 0
HOURS = 1
TAIL = 2


def tail_plan(works):
    """The rows of bench 0, which has at each moment, of the works that wait, the one with the greatest tail."""
    left = [work[HOURS] for work in works]
    rows = []
    moment = 0
    while any(left):
        number = chosen(works, left, moment)
        stop = next_coming(works, moment)
        if number is None:
            moment = stop
            continue
        # Whatever comes while the bench is at work may be chosen in its place, so it is chosen anew then.
        end = moment + left[number]
        if stop is not None:
            end = min(end, stop)
        rows.append([0, number, moment, end])
        left[number] -= end - moment
        moment = end
    return joined(rows)


def chosen(works, left, moment):
    """Of the works that have come and are not done, the first with the greatest tail; None where there is none."""
    waiting = [number for number, work in enumerate(works) if work[COME] <= moment and left[number] > 0]
    return min(waiting, key=lambda number: (-works[number][TAIL], number), default=None)


def next_coming(works, moment):
    """The first moment, behind this one, at which a work comes; None where none comes any more."""
    return min([work[COME] for work in works if work[COME] > moment], default=None)


def tail_end(works):
    """The greatest, over the works, of the last moment and the tail together; 0 where there are no works."""
    rows = tail_plan(works)
    ends = [last_moment_of(rows, number) + work[TAIL] for number, work in enumerate(works)]
    return max(ends, default=0)


def last_moment_of(rows, number):
    """The last moment of the work's own rows."""
    return last_moment([row for row in rows if row[WORK] == number])


def bound(works, some):
    """The least of the comings of these works, all their hours and the least of their tails together."""
    comes = [works[number][COME] for number in some]
    hours = [works[number][HOURS] for number in some]
    tails = [works[number][TAIL] for number in some]
    return min(comes) + sum(hours) + min(tails)


def why_tail(works):
    """Works, rising, whose bound is the plan's end; [] where there are no works."""
    end = tail_end(works)
    # Of works with a least coming and a least tail, all that come and trail no less have the greatest bound.
    for first in works:
        for last in works:
            some = no_less(works, first[COME], last[TAIL])
            if some and bound(works, some) == end:
                return some
    return []


def no_less(works, come, tail):
    """The works, rising, that come at this moment or later and have this tail or a greater one."""
    return [number for number, work in enumerate(works) if work[COME] >= come and work[TAIL] >= tail]
