"""Rows [bench, work, begin, end] of a plan."""

from leastfloor.wholes import is_whole

BENCH = 0
WORK = 1
BEGIN = 2
END = 3


def apart(rows):
    """Whether each list is a row, and no bench and no work has two rows at once."""
    if not all([is_row(row) for row in rows]):
        return False
    return one_at_a_time(rows, BENCH) and one_at_a_time(rows, WORK)


def is_row(numbers):
    """Whether the list is four whole numbers from 0 on, begin less than end."""
    if len(numbers) != 4:
        return False
    if not all([is_whole(number) and number >= 0 for number in numbers]):
        return False
    return numbers[BEGIN] < numbers[END]


def one_at_a_time(rows, place):
    """Whether no moment lies in two rows that have the same number at this place."""
    last_ends = {}
    for begin, end, owner in sorted([(row[BEGIN], row[END], row[place]) for row in rows]):
        # In the order of their begins, only the row just ahead of the same owner can reach into this one.
        if begin < last_ends.get(owner, 0):
            return False
        last_ends[owner] = end
    return True


def hours_of(rows, work):
    """The sum of end - begin over the rows of the work."""
    return sum([row[END] - row[BEGIN] for row in rows if row[WORK] == work])


def last_moment(rows):
    """The greatest end, 0 of no rows."""
    return max([row[END] for row in rows], default=0)


def joined(rows):
    """The fewest rows that say the same as these, which are apart, sorted by begin, then by bench."""
    fewest = []
    # Sorted as they are, rows of the same bench and work stand together, in the order of their begins.
    for row in sorted(rows):
        if fewest and goes_on(fewest[-1], row):
            fewest[-1][END] = row[END]
        else:
            fewest.append(list(row))
    return sorted(fewest, key=lambda each: (each[BEGIN], each[BENCH]))


def goes_on(row, later):
    """Whether the later row begins where the row ends, with the same bench and work."""
    return row[BENCH] == later[BENCH] and row[WORK] == later[WORK] and row[END] == later[BEGIN]


def moments(rows):
    """The begins and ends of the rows, rising, each once."""
    return sorted(set([row[BEGIN] for row in rows] + [row[END] for row in rows]))


def busy(rows, moment):
    """The tuples (bench, work) of the rows in which the moment lies, sorted."""
    return sorted([(row[BENCH], row[WORK]) for row in rows if row[BEGIN] <= moment < row[END]])


def lies_on(rows, benches, works):
    """Whether the rows are apart, and each bench and each work of theirs is one of so many."""
    return apart(rows) and all([row[BENCH] < benches and row[WORK] < works for row in rows])


def has_hours(rows, hours):
    """Whether each work has just its hours."""
    return all([hours_of(rows, work) == wanted for work, wanted in enumerate(hours)])


def rows_of(rows, bench):
    """The rows of one bench."""
    return [row for row in rows if row[BENCH] == bench]


def none_too_soon(rows, comes):
    """Whether no row begins ahead of its work's come."""
    return all([comes[row[WORK]] <= row[BEGIN] for row in rows])


def none_too_late(rows, dues):
    """Whether no row ends behind its work's due."""
    return all([row[END] <= dues[row[WORK]] for row in rows])
