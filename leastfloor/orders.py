"""Works of one turn each, some of them ahead of others: what is ahead of what, and the marks of the works."""

from leastfloor.errors import NoOrder
from leastfloor.wholes import all_in


def ahead_of(many, needs):
    """For each work the works that it is ahead of, rising."""
    before = told_order(many, needs)
    for between in range(many):
        for first in range(many):
            if before[first][between]:
                before[first] = either(before[first], before[between])
    if any([before[work][work] for work in range(many)]):
        raise NoOrder("a work would be ahead of itself")
    return [[later for later in range(many) if row[later]] for row in before]


def told_order(many, needs):
    """For each work a list of truths: whether it is told to be ahead of each one."""
    before = [[False] * many for work in range(many)]
    for first, later in needs:
        if not (0 <= first < many and 0 <= later < many):
            raise NoOrder(f"{first} or {later} is no work")
        before[first][later] = True
    return before


def either(truths, others):
    """Place by place, whether one of the two is true."""
    return [one or other for one, other in zip(truths, others)]


def straight_ahead(many, needs):
    """For each work the works that it is ahead of with no work between, rising."""
    ahead = ahead_of(many, needs)
    return [[later for later in row if not comes_between(ahead, row, later)] for row in ahead]


def comes_between(ahead, row, later):
    """Whether one of the works of the row is ahead of the later work."""
    return any([later in ahead[between] for between in row])


def marks(many, needs):
    """For each work its mark, of the numbers from 1 on, given one after the other from the last works on."""
    straight = straight_ahead(many, needs)
    given = [0] * many
    for mark in range(1, many + 1):
        given[next_marked(straight, given)] = mark
    return given


def next_marked(straight, given):
    """Of the works without a mark, behind which all have one, the first of those whose row of marks is least."""
    # All works behind a work have marks where those straight behind it have: none of these got its mark sooner.
    free = [work for work, row in enumerate(straight) if given[work] == 0 and all([given[later] for later in row])]
    return min(free, key=lambda work: (falling_marks(straight[work], given), work))


def falling_marks(works, given):
    """The marks of the works, the greatest first."""
    return sorted([given[work] for work in works], reverse=True)


def keeps_order(many, needs, places, turns):
    """Whether the turns, any lists, have each work once, in no turn more than places, and none ahead of its needs."""
    if sorted(all_in(turns)) != list(range(many)):
        return False
    if not all([1 <= len(turn) <= places for turn in turns]):
        return False
    turn_of = {}
    for number, turn in enumerate(turns):
        for work in turn:
            turn_of[work] = number
    return all([turn_of[first] < turn_of[later] for first, later in needs])
