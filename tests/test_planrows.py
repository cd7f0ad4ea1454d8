import copy
import itertools
import random
import unittest

from leastfloor.planrows import apart, busy, hours_of, joined, last_moment, moments

HUGE = 10 ** 59


def apart_by_definition(rows):
    """Point 4 word by word, for small numbers."""
    for row in rows:
        if len(row) != 4 or min(row) < 0 or row[2] >= row[3]:
            return False
    for one, other in itertools.combinations(rows, 2):
        both = set(range(one[2], one[3])) & set(range(other[2], other[3]))
        if both and (one[0] == other[0] or one[1] == other[1]):
            return False
    return True


def said_by(rows):
    """What rows say: which bench has which work in which hour."""
    return sorted((row[0], row[1], moment) for row in rows for moment in range(row[2], row[3]))


def fewest_by_definition(rows):
    """One row for each longest stretch of hours of one bench with one work."""
    said = set(said_by(rows))
    begins = sorted((moment, bench, work) for bench, work, moment in said if (bench, work, moment - 1) not in said)
    told = []
    for begin, bench, work in begins:
        end = begin
        while (bench, work, end) in said:
            end += 1
        told.append([bench, work, begin, end])
    return told


def random_rows(chance, many):
    """Many lists of four, rows for the most part, with a few numbers out of place."""
    rows = []
    for _ in range(many):
        begin = chance.randint(0, 8)
        end = begin + (chance.randint(1, 3) if chance.random() < 0.95 else chance.randint(-1, 0))
        rows.append([chance.randint(0, 3), chance.randint(0, 3), begin, end])
    return rows


def random_apart(chance):
    """Rows that are apart, in any order."""
    rows = []
    for row in random_rows(chance, 14):
        if apart_by_definition(rows + [row]):
            rows.append(row)
    return rows


class Apart(unittest.TestCase):

    def test_no_rows(self):
        self.assertIs(apart([]), True)

    def test_ordinary_rows(self):
        self.assertIs(apart([[0, 0, 0, 3], [1, 1, 0, 3], [0, 1, 3, 5], [1, 0, 4, 5]]), True)

    def test_lists_of_other_lengths(self):
        for row in [[], [0], [0, 1], [0, 1, 2], [0, 1, 2, 3, 4], [0, 0, 0, 1, 0, 0, 0, 2]]:
            self.assertIs(apart([row]), False, row)
            self.assertIs(apart([[0, 0, 0, 1], row]), False, row)

    def test_numbers_below_nought(self):
        for row in [[-1, 0, 0, 1], [0, -1, 0, 1], [0, 0, -1, 1], [0, 0, -2, -1]]:
            self.assertIs(apart([row]), False, row)

    def test_begin_not_ahead_of_end(self):
        for row in [[0, 0, 0, 0], [0, 0, 4, 4], [0, 0, 5, 4], [0, 0, 1, 0]]:
            self.assertIs(apart([row]), False, row)
            self.assertIs(apart([[1, 1, 0, 9], row]), False, row)

    def test_truths_are_no_whole_numbers(self):
        for row in [[False, 0, 0, 1], [0, True, 0, 1], [0, 0, False, 1], [0, 0, 0, True]]:
            self.assertIs(apart([row]), False, row)

    def test_one_begins_where_another_ends(self):
        self.assertIs(apart([[0, 0, 0, 3], [0, 1, 3, 5]]), True)
        self.assertIs(apart([[0, 1, 3, 5], [0, 0, 0, 3]]), True)
        self.assertIs(apart([[0, 0, 0, 3], [1, 0, 3, 5]]), True)
        self.assertIs(apart([[0, 0, 0, 3], [0, 0, 3, 5]]), True)

    def test_a_bench_with_two_works_at_once(self):
        self.assertIs(apart([[0, 0, 0, 4], [0, 1, 3, 5]]), False)
        self.assertIs(apart([[0, 1, 3, 5], [0, 0, 0, 4]]), False)
        self.assertIs(apart([[0, 0, 0, 9], [0, 1, 3, 5]]), False)

    def test_a_work_at_two_benches_at_once(self):
        self.assertIs(apart([[0, 0, 0, 4], [1, 0, 3, 5]]), False)
        self.assertIs(apart([[1, 0, 3, 5], [0, 0, 0, 4]]), False)
        self.assertIs(apart([[0, 0, 0, 9], [1, 0, 3, 5]]), False)

    def test_a_long_row_reaches_over_others(self):
        self.assertIs(apart([[0, 0, 0, 9], [1, 1, 1, 2], [1, 2, 3, 4], [0, 3, 8, 10]]), False)
        self.assertIs(apart([[0, 0, 0, 9], [1, 1, 1, 2], [1, 2, 3, 4], [1, 0, 8, 10]]), False)

    def test_bench_and_work_of_one_number_are_not_the_same(self):
        self.assertIs(apart([[0, 1, 0, 4], [1, 0, 0, 4]]), True)

    def test_one_row_told_twice(self):
        self.assertIs(apart([[0, 0, 0, 1], [0, 0, 0, 1]]), False)

    def test_large_numbers(self):
        self.assertIs(apart([[HUGE, HUGE, HUGE, HUGE + 1], [HUGE, HUGE, HUGE + 1, HUGE + 2]]), True)
        self.assertIs(apart([[HUGE, HUGE, HUGE, HUGE + 2], [HUGE, 1, HUGE + 1, HUGE + 3]]), False)
        self.assertIs(apart([[HUGE, HUGE, HUGE, HUGE + 2], [HUGE + 1, HUGE, HUGE + 1, HUGE + 3]]), False)
        self.assertIs(apart([[0, 0, HUGE, HUGE]]), False)

    def test_a_thousand_rows(self):
        rows = [[0, k % 7, k, k + 1] for k in range(1000)]
        self.assertIs(apart(rows), True)
        self.assertIs(apart(rows + [[0, 9, 500, 501]]), False)

    def test_as_the_definition_tells_it(self):
        chance = random.Random(4)
        found = []
        for _ in range(2000):
            rows = random_rows(chance, chance.randint(0, 5))
            found.append(apart(rows))
            self.assertIs(found[-1], apart_by_definition(rows), rows)
        self.assertGreater(found.count(True), 100)
        self.assertGreater(found.count(False), 100)


class HoursAndLastMoment(unittest.TestCase):

    ROWS = [[1, 0, 7, 9], [0, 0, 0, 3], [0, 1, 3, 12], [1, 2, 0, 5]]

    def test_a_work_with_several_rows(self):
        self.assertEqual(hours_of(self.ROWS, 0), 5)

    def test_a_work_with_one_row(self):
        self.assertEqual(hours_of(self.ROWS, 1), 9)

    def test_a_work_with_no_row(self):
        self.assertEqual(hours_of(self.ROWS, 3), 0)
        self.assertEqual(hours_of([], 0), 0)

    def test_large_hours(self):
        self.assertEqual(hours_of([[0, HUGE, 1, HUGE], [1, HUGE, HUGE, 2 * HUGE]], HUGE), 2 * HUGE - 1)

    def test_the_last_moment_in_any_order(self):
        for rows in itertools.permutations(self.ROWS):
            self.assertEqual(last_moment(list(rows)), 12)

    def test_the_last_moment_of_the_row_that_begins_first(self):
        self.assertEqual(last_moment([[0, 0, 0, 9], [1, 1, 5, 6]]), 9)

    def test_the_last_moment_of_no_rows(self):
        self.assertEqual(last_moment([]), 0)

    def test_a_large_last_moment(self):
        self.assertEqual(last_moment([[0, 0, HUGE, HUGE + 1], [0, 0, 0, HUGE]]), HUGE + 1)


class Joined(unittest.TestCase):

    def test_no_rows(self):
        self.assertEqual(joined([]), [])

    def test_neighbours_are_one(self):
        self.assertEqual(joined([[0, 5, 1, 3], [0, 5, 3, 4]]), [[0, 5, 1, 4]])

    def test_four_neighbours_in_any_order(self):
        rows = [[2, 5, 1, 3], [2, 5, 3, 4], [2, 5, 4, 9], [2, 5, 9, 10]]
        for told in itertools.permutations(rows):
            self.assertEqual(joined(list(told)), [[2, 5, 1, 10]])

    def test_a_gap_stays(self):
        self.assertEqual(joined([[0, 5, 4, 6], [0, 5, 1, 3]]), [[0, 5, 1, 3], [0, 5, 4, 6]])

    def test_unlike_works_of_one_bench_stay(self):
        self.assertEqual(joined([[0, 1, 3, 4], [0, 2, 0, 3]]), [[0, 2, 0, 3], [0, 1, 3, 4]])

    def test_unlike_benches_of_one_work_stay(self):
        self.assertEqual(joined([[0, 1, 3, 4], [1, 1, 0, 3]]), [[1, 1, 0, 3], [0, 1, 3, 4]])

    def test_another_work_between_stays(self):
        self.assertEqual(joined([[0, 1, 3, 4], [0, 0, 0, 3], [0, 0, 4, 5]]),
                         [[0, 0, 0, 3], [0, 1, 3, 4], [0, 0, 4, 5]])

    def test_rows_with_the_same_begin_are_sorted_by_bench(self):
        self.assertEqual(joined([[2, 0, 1, 5], [0, 2, 1, 2], [1, 1, 1, 4], [3, 3, 0, 9]]),
                         [[3, 3, 0, 9], [0, 2, 1, 2], [1, 1, 1, 4], [2, 0, 1, 5]])

    def test_large_numbers(self):
        self.assertEqual(joined([[HUGE, HUGE, HUGE, HUGE + 1], [HUGE, HUGE, 0, HUGE]]), [[HUGE, HUGE, 0, HUGE + 1]])

    def test_a_thousand_rows(self):
        self.assertEqual(joined([[0, 0, k, k + 1] for k in reversed(range(1000))]), [[0, 0, 0, 1000]])

    def test_as_the_definition_tells_it(self):
        chance = random.Random(6)
        fewer = 0
        for _ in range(1000):
            rows = random_apart(chance)
            told = joined(rows)
            self.assertEqual(told, fewest_by_definition(rows), rows)
            self.assertEqual(said_by(told), said_by(rows), rows)
            self.assertEqual(joined(told), told)
            self.assertTrue(apart(told))
            fewer += len(told) < len(rows)
        self.assertGreater(fewer, 100)


class MomentsAndBusy(unittest.TestCase):

    ROWS = [[1, 0, 7, 9], [0, 0, 0, 3], [0, 1, 3, 9], [1, 2, 0, 5]]

    def test_each_begin_and_end_once_rising(self):
        self.assertEqual(moments(self.ROWS), [0, 3, 5, 7, 9])

    def test_moments_of_no_rows(self):
        self.assertEqual(moments([]), [])

    def test_large_moments(self):
        self.assertEqual(moments([[0, 0, HUGE, HUGE + 1], [1, 1, 2, HUGE]]), [2, HUGE, HUGE + 1])

    def test_at_a_begin(self):
        self.assertEqual(busy(self.ROWS, 0), [(0, 0), (1, 2)])
        self.assertEqual(busy(self.ROWS, 7), [(0, 1), (1, 0)])

    def test_right_ahead_of_an_end(self):
        self.assertEqual(busy(self.ROWS, 2), [(0, 0), (1, 2)])
        self.assertEqual(busy(self.ROWS, 8), [(0, 1), (1, 0)])

    def test_at_an_end(self):
        self.assertEqual(busy(self.ROWS, 3), [(0, 1), (1, 2)])
        self.assertEqual(busy(self.ROWS, 5), [(0, 1)])
        self.assertEqual(busy(self.ROWS, 9), [])

    def test_where_no_row_lies(self):
        self.assertEqual(busy(self.ROWS, 100), [])
        self.assertEqual(busy(self.ROWS, -1), [])
        self.assertEqual(busy([[0, 0, 0, 1], [0, 0, 2, 3]], 1), [])
        self.assertEqual(busy([], 0), [])

    def test_sorted_by_bench_in_any_order(self):
        rows = [[2, 0, 0, 5], [0, 2, 1, 5], [1, 1, 2, 5], [10, 9, 0, 5]]
        for told in itertools.permutations(rows):
            self.assertEqual(busy(list(told), 4), [(0, 2), (1, 1), (2, 0), (10, 9)])

    def test_tuples_in_a_list(self):
        told = busy(self.ROWS, 0)
        self.assertIs(type(told), list)
        self.assertEqual([type(pair) for pair in told], [tuple, tuple])

    def test_large_numbers(self):
        self.assertEqual(busy([[HUGE, HUGE, HUGE, HUGE + 1]], HUGE), [(HUGE, HUGE)])
        self.assertEqual(busy([[HUGE, HUGE, HUGE, HUGE + 1]], HUGE + 1), [])


class NothingIsChanged(unittest.TestCase):

    ROWS = [[1, 0, 9, 10], [1, 0, 7, 9], [0, 0, 0, 3], [0, 1, 3, 12], [1, 2, 0, 5]]

    CALLS = [apart, lambda rows: hours_of(rows, 0), last_moment, joined, moments, lambda rows: busy(rows, 4)]

    def test_what_was_handed_in_is_as_before(self):
        for call in self.CALLS:
            for rows in [copy.deepcopy(self.ROWS), [], [[0, 0, 0, 1]]]:
                before = copy.deepcopy(rows)
                lists = list(rows)
                call(rows)
                self.assertEqual(rows, before)
                self.assertTrue(all(one is other for one, other in zip(rows, lists, strict=True)))

    def test_a_wrong_row_is_as_before(self):
        rows = [[3, 2], [], [0, 0, 2, 1]]
        apart(rows)
        self.assertEqual(rows, [[3, 2], [], [0, 0, 2, 1]])

    def test_a_changed_answer_changes_nothing(self):
        for call in [joined, moments, lambda rows: busy(rows, 4)]:
            rows = copy.deepcopy(self.ROWS)
            told = call(rows)
            kept = copy.deepcopy(told)
            for inner in told:
                if isinstance(inner, list):
                    inner[0] = 77
                    inner.append(78)
            told.append(79)
            self.assertEqual(rows, self.ROWS)
            self.assertEqual(call(rows), kept)

    def test_rows_that_need_no_joining_are_new_too(self):
        rows = [[0, 0, 0, 1], [1, 1, 0, 1]]
        told = joined(rows)
        told[0][3] = 5
        told.pop()
        self.assertEqual(rows, [[0, 0, 0, 1], [1, 1, 0, 1]])

    def test_rows_changed_afterwards_do_not_change_an_answer(self):
        rows = copy.deepcopy(self.ROWS)
        told = [joined(rows), moments(rows), busy(rows, 4)]
        kept = copy.deepcopy(told)
        for row in rows:
            row[2] = 50
            row[3] = 60
        rows.clear()
        self.assertEqual(told, kept)

    def test_told_again_an_answer_is_as_it_was(self):
        for call in self.CALLS:
            rows = copy.deepcopy(self.ROWS)
            self.assertEqual(call(rows), call(rows))


if __name__ == "__main__":
    unittest.main()
