"""Works [come, due, hours] on benches alike: a plan within their windows, or the works and stretches that show none."""

from leastfloor.alike import wrapped
from leastfloor.flows import COME, DUE, HOURS, hours_left, reached, shares
from leastfloor.planrows import joined
from leastfloor.wholes import are_rising


def window_plan(works, benches):
    """The rows, joined, of a plan that has each work for its hours between its come and its due, or None."""
    told = shares(works, benches)
    stretches = told[0]
    table = told[1]
    if any([hours_left(works, table, work) > 0 for work in range(len(works))]):
        return None
    rows = []
    for number, stretch in enumerate(stretches):
        rows.extend(stretch_rows(stretch, [row[number] for row in table], benches))
    return joined(rows)


def stretch_rows(stretch, hours, benches):
    """The rows of the works' hours in one stretch."""
    begin = stretch[0]
    length = stretch[1] - begin
    return [[bench, work, begin + first, begin + last] for bench, work, first, last in wrapped(hours, benches, length)]


def room(works, benches, some, stretches):
    """The hours that these works have at most: on all benches in the stretches, and each by itself outside of them."""
    inside = benches * sum([end - begin for begin, end in stretches])
    return inside + sum([hours_outside(works[work], stretches) for work in some])


def hours_outside(work, stretches):
    """The hours of the work's window that lie in none of the stretches."""
    covered = [min(work[DUE], end) - max(work[COME], begin) for begin, end in stretches]
    return work[DUE] - work[COME] - sum([hours for hours in covered if hours > 0])


def no_window(works, benches):
    """A tuple of works and stretches such that the works want more than their room there; None where a plan is."""
    told = shares(works, benches)
    stretches = told[0]
    # The stretches to which hours left over can go are full, of the hours of works to which they can go too; and
    # these works have all that they can have elsewhere.
    places = sorted(reached(works, stretches, told[1]))
    if not places:
        return None
    many = len(works)
    some = [place for place in places if place < many]
    return (some, [stretches[place - many] for place in places if place >= many])


def lacks_room(works, benches, some, stretches):
    """Whether these numbers, any lists, are works that want more than their room in what are stretches."""
    if not are_rising(some, len(works)) or not are_stretches(stretches):
        return False
    return sum([works[work][HOURS] for work in some]) > room(works, benches, some, stretches)


def are_stretches(lists):
    """Whether the lists are stretches [begin, end], sorted, no moment in two of them."""
    if not all([len(each) == 2 and each[0] < each[1] for each in lists]):
        return False
    return all([one[1] <= other[0] for one, other in zip(lists, lists[1:])])
