"""Plans of open floors, and the reason why none ends sooner."""

from leastfloor.phases import loads, open_end, phases
from leastfloor.planrows import joined


def open_plan(table):
    """The rows [bench, hand, begin, end] of the table's phases, one behind another, joined."""
    rows = []
    begin = 0
    for hours, pairs in phases(table):
        end = begin + hours
        rows.extend([[bench, hand, begin, end] for hand, bench in pairs])
        begin = end
    return joined(rows)


def why_open(table):
    """[0, hand] or [1, bench], one whose load is the least end; [] where there is no hand."""
    end = open_end(table)
    for side, sums in enumerate(loads(table)):
        if end in sums:
            return [side, sums.index(end)]
    return []
