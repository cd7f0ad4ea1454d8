"""Works on benches alike: the least end, a plan that reaches it, and the reason for it."""

from leastfloor.errors import NoRoom
from leastfloor.wholes import divided_up


def least_end(hours, benches):
    """The least moment at which a plan of these works can end."""
    if not hours:
        return 0
    return max(max(hours), even_share(hours, benches))


def even_share(hours, benches):
    """The sum of all hours divided by the benches, rounded up."""
    return divided_up(sum(hours), benches)


def wrapped(hours, benches, end):
    """The rows of the benches filled one behind another, each from moment 0 to the end."""
    least = least_end(hours, benches)
    if end < least:
        raise NoRoom(f"the works need the time till {least}, the end is {end}")
    rows = []
    bench = 0
    moment = 0
    for work, wanted in enumerate(hours):
        left = wanted
        while left > 0:
            # A full bench is left only when hours are still to be laid: there may be no bench behind the last.
            if moment == end:
                bench += 1
                moment = 0
            stop = min(moment + left, end)
            rows.append([bench, work, moment, stop])
            left -= stop - moment
            moment = stop
    return rows


def why_end(hours, benches):
    """The reason for the least end: [the first work that alone needs it], or [] where the sum does."""
    least = least_end(hours, benches)
    if least in hours:
        return [hours.index(least)]
    return []


def end_shown(hours, benches, reason):
    """The moment before which, by this reason, no plan can end."""
    if reason:
        return hours[reason[0]]
    return even_share(hours, benches)
