"""Whole numbers and lists of them: what is one, how one is divided, and what a list tells."""


def is_whole(value):
    """Whether the value is an int that is no truth."""
    return isinstance(value, int) and not isinstance(value, bool)


def divided_up(total, parts):
    """The total divided by the parts, rounded up."""
    # A float would lose figures of large numbers, so the rest is looked at by itself.
    if total % parts:
        return total // parts + 1
    return total // parts


def tells_one(numbers, least, most):
    """Whether the list is one number alone, from the least to the most."""
    return len(numbers) == 1 and least <= numbers[0] <= most


def none_below(numbers, least):
    """Whether each number is the least or more."""
    return all([number >= least for number in numbers])


def are_rising(numbers, many):
    """Whether the numbers rise, none twice, and each is one of 0 to many - 1."""
    if not all([0 <= number < many for number in numbers]):
        return False
    return all([one < other for one, other in zip(numbers, numbers[1:])])


def all_in(lists):
    """The numbers of all lists, one behind another."""
    told = []
    for numbers in lists:
        told.extend(numbers)
    return told
