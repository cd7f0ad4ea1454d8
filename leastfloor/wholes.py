"""Whole numbers: what is one, and how one is divided."""


def is_whole(value):
    """Whether the value is an int that is no truth."""
    return isinstance(value, int) and not isinstance(value, bool)


def divided_up(total, parts):
    """The total divided by the parts, rounded up."""
    # A float would lose figures of large numbers, so the rest is looked at by itself.
    if total % parts:
        return total // parts + 1
    return total // parts
