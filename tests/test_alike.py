import copy
import itertools
import unittest

from leastfloor.alike import end_shown, least_end, why_end, wrapped
from leastfloor.errors import NoRoom
from leastfloor.planrows import apart, hours_of, last_moment

HUGE = 10 ** 49


def small_floors():
    """All works of none to four with 0 to 4 hours each, on one to four benches."""
    for many in range(5):
        for hours in itertools.product(range(5), repeat=many):
            for benches in range(1, 5):
                yield list(hours), benches


def share_by_counting(hours, benches):
    """The least number that, times the benches, is all hours or more."""
    share = 0
    while share * benches < sum(hours):
        share += 1
    return share


def wrapped_by_hours(hours, benches, end):
    """Point 9 hour by hour: all hours in one line, cut into benches."""
    line = [work for work, wanted in enumerate(hours) for _ in range(wanted)]
    rows = []
    for place, work in enumerate(line):
        bench, begin = divmod(place, end)
        if rows and rows[-1][0] == bench and rows[-1][1] == work:
            rows[-1][3] = begin + 1
        else:
            rows.append([bench, work, begin, begin + 1])
    return rows


class LeastEnd(unittest.TestCase):

    def test_no_works(self):
        for benches in [1, 2, 20]:
            self.assertEqual(least_end([], benches), 0)

    def test_works_of_no_hours(self):
        self.assertEqual(least_end([0], 1), 0)
        self.assertEqual(least_end([0, 0, 0], 2), 0)

    def test_one_work_longer_than_the_share(self):
        self.assertEqual(least_end([9, 1, 2], 3), 9)
        self.assertEqual(least_end([1, 2, 9], 3), 9)

    def test_the_share_of_all(self):
        self.assertEqual(least_end([4, 4, 4], 2), 6)

    def test_a_sum_that_is_not_divided_evenly(self):
        self.assertEqual(least_end([3, 3, 3], 2), 5)
        self.assertEqual(least_end([3, 3, 4, 3], 3), 5)
        self.assertEqual(least_end([1, 1, 1, 1], 3), 2)

    def test_more_benches_than_works(self):
        self.assertEqual(least_end([3, 5], 20), 5)

    def test_one_bench(self):
        self.assertEqual(least_end([3, 0, 5], 1), 8)

    def test_hours_of_fifty_figures(self):
        self.assertEqual(least_end([HUGE, HUGE, HUGE + 1], 2), 3 * HUGE // 2 + 1)
        self.assertEqual(least_end([HUGE, HUGE, HUGE], 2), 3 * HUGE // 2)
        self.assertEqual(least_end([HUGE + 1, 1, 1], 3), HUGE + 1)
        self.assertEqual(least_end([10 ** 50 - 1] * 20, 20), 10 ** 50 - 1)
        self.assertEqual(least_end([10 ** 50 - 1] * 20 + [1], 20), 10 ** 50)

    def test_as_the_definition_tells_it(self):
        for hours, benches in small_floors():
            told = least_end(hours, benches)
            self.assertEqual(told, max(hours + [share_by_counting(hours, benches)]), (hours, benches))
            self.assertIs(type(told), int)


class Wrapped(unittest.TestCase):

    def test_the_least_end(self):
        self.assertEqual(wrapped([4, 4, 4], 2, 6), [[0, 0, 0, 4], [0, 1, 4, 6], [1, 1, 0, 2], [1, 2, 2, 6]])

    def test_one_less_is_refused(self):
        for hours, benches, end in [([4, 4, 4], 2, 5), ([9, 1], 2, 8), ([3, 3, 3], 2, 4), ([1], 1, 0)]:
            self.assertEqual(least_end(hours, benches), end + 1)
            with self.assertRaises(NoRoom):
                wrapped(hours, benches, end)

    def test_an_end_below_nought_is_refused(self):
        for hours in [[], [0], [2]]:
            with self.assertRaises(NoRoom):
                wrapped(hours, 1, -1)

    def test_an_end_far_behind(self):
        self.assertEqual(wrapped([4, 4, 4], 2, 1000), [[0, 0, 0, 4], [0, 1, 4, 8], [0, 2, 8, 12]])

    def test_a_little_behind_the_least_end(self):
        self.assertEqual(wrapped([4, 4, 4], 2, 7), [[0, 0, 0, 4], [0, 1, 4, 7], [1, 1, 0, 1], [1, 2, 1, 5]])

    def test_a_work_that_goes_on_at_the_next_bench(self):
        self.assertEqual(wrapped([3, 3, 3], 2, 5), [[0, 0, 0, 3], [0, 1, 3, 5], [1, 1, 0, 1], [1, 2, 1, 4]])

    def test_a_work_that_stops_just_at_the_end(self):
        self.assertEqual(wrapped([2, 3, 4], 2, 5), [[0, 0, 0, 2], [0, 1, 2, 5], [1, 2, 0, 4]])
        self.assertEqual(wrapped([5, 5, 5], 3, 5), [[0, 0, 0, 5], [1, 1, 0, 5], [2, 2, 0, 5]])

    def test_works_of_no_hours_have_no_row(self):
        self.assertEqual(wrapped([0, 2, 0, 0, 3, 0, 4, 0], 2, 5), [[0, 1, 0, 2], [0, 4, 2, 5], [1, 6, 0, 4]])
        self.assertEqual(wrapped([0, 0], 3, 7), [])

    def test_no_works(self):
        self.assertEqual(wrapped([], 1, 0), [])
        self.assertEqual(wrapped([], 4, 9), [])

    def test_an_end_of_nought(self):
        self.assertEqual(wrapped([0], 1, 0), [])
        self.assertEqual(wrapped([0, 0, 0], 2, 0), [])
        with self.assertRaises(NoRoom):
            wrapped([0, 1, 0], 2, 0)

    def test_hours_of_fifty_figures(self):
        end = 3 * HUGE // 2
        self.assertEqual(wrapped([HUGE, HUGE, HUGE], 2, end),
                         [[0, 0, 0, HUGE], [0, 1, HUGE, end], [1, 1, 0, HUGE // 2], [1, 2, HUGE // 2, end]])
        with self.assertRaises(NoRoom):
            wrapped([HUGE, HUGE, HUGE], 2, end - 1)

    def test_twenty_works_on_twenty_benches(self):
        self.assertEqual(wrapped([7] * 20, 20, 7), [[k, k, 0, 7] for k in range(20)])

    def test_as_the_definition_tells_it(self):
        for hours, benches in small_floors():
            least = least_end(hours, benches)
            for end in [least, least + 1, least + 2, 100]:
                rows = wrapped(hours, benches, end)
                self.assertEqual(rows, wrapped_by_hours(hours, benches, end), (hours, benches, end))
                self.assertTrue(apart(rows))
                self.assertLessEqual(last_moment(rows), end)
                self.assertTrue(all(row[0] < benches for row in rows))
                self.assertEqual([hours_of(rows, work) for work in range(len(hours))], hours)
                self.assertEqual(rows, sorted(rows, key=lambda row: (row[0], row[2])))
            with self.assertRaises(NoRoom):
                wrapped(hours, benches, least - 1)


class Reasons(unittest.TestCase):

    def test_the_first_of_several_works(self):
        self.assertEqual(why_end([1, 5, 2, 5, 5], 20), [1])
        self.assertEqual(why_end([6, 6], 2), [0])

    def test_works_of_no_hours(self):
        self.assertEqual(why_end([0, 0], 3), [0])

    def test_a_work_that_is_the_share_too(self):
        self.assertEqual(why_end([2, 4, 2], 2), [1])

    def test_one_bench(self):
        self.assertEqual(why_end([0, 8, 0], 1), [1])
        self.assertEqual(why_end([0, 8, 1], 1), [])

    def test_where_no_work_has_these_hours(self):
        self.assertEqual(why_end([4, 4, 4], 2), [])
        self.assertEqual(why_end([3, 3, 3], 2), [])

    def test_no_works(self):
        self.assertEqual(why_end([], 1), [])
        self.assertEqual(why_end([], 20), [])

    def test_large_hours(self):
        self.assertEqual(why_end([HUGE, HUGE + 1, HUGE + 1], 3), [1])
        self.assertEqual(why_end([HUGE, HUGE, 1], 2), [])

    def test_what_each_work_alone_shows(self):
        hours = [3, 0, 7, HUGE]
        for work, wanted in enumerate(hours):
            self.assertEqual(end_shown(hours, 2, [work]), wanted)

    def test_what_the_sum_shows(self):
        self.assertEqual(end_shown([3, 3, 3], 2, []), 5)
        self.assertEqual(end_shown([4, 4, 4], 2, []), 6)
        self.assertEqual(end_shown([9, 1, 0], 4, []), 3)
        self.assertEqual(end_shown([0, 0], 4, []), 0)
        self.assertEqual(end_shown([], 4, []), 0)
        self.assertEqual(end_shown([HUGE, HUGE, HUGE + 1], 2, []), 3 * HUGE // 2 + 1)

    def test_the_reason_shows_the_least_end(self):
        for hours, benches in small_floors():
            least = least_end(hours, benches)
            reason = why_end(hours, benches)
            first = [work for work, wanted in enumerate(hours) if wanted == least][:1]
            self.assertEqual(reason, first, (hours, benches))
            self.assertEqual(end_shown(hours, benches, reason), least, (hours, benches))

    def test_no_reason_shows_more_than_the_least_end(self):
        for hours, benches in small_floors():
            for reason in [[]] + [[work] for work in range(len(hours))]:
                self.assertLessEqual(end_shown(hours, benches, reason), least_end(hours, benches))


class NothingIsChanged(unittest.TestCase):

    HOURS = [4, 0, 4, 3, 6]

    CALLS = [lambda hours: least_end(hours, 3), lambda hours: wrapped(hours, 3, 6), lambda hours: why_end(hours, 3),
             lambda hours: end_shown(hours, 3, []), lambda hours: end_shown(hours, 3, [2])]

    def test_what_was_handed_in_is_as_before(self):
        for call in self.CALLS:
            hours = list(self.HOURS)
            call(hours)
            self.assertEqual(hours, self.HOURS)

    def test_a_refusal_changes_nothing(self):
        hours = list(self.HOURS)
        with self.assertRaises(NoRoom):
            wrapped(hours, 3, 5)
        self.assertEqual(hours, self.HOURS)

    def test_a_reason_handed_in_is_as_before(self):
        for reason in [[], [3]]:
            before = list(reason)
            end_shown(self.HOURS, 3, reason)
            self.assertEqual(reason, before)

    def test_a_changed_answer_changes_nothing(self):
        hours = list(self.HOURS)
        for call in [lambda: wrapped(hours, 3, 6), lambda: why_end(hours, 3), lambda: why_end([1, 1, 1], 2),
                     lambda: why_end([], 2), lambda: wrapped([], 2, 0)]:
            told = call()
            kept = copy.deepcopy(told)
            for inner in told:
                if isinstance(inner, list):
                    inner[1] = 77
                    inner.append(78)
            told.append(79)
            self.assertEqual(hours, self.HOURS)
            self.assertEqual(call(), kept)

    def test_told_again_an_answer_is_as_it_was(self):
        for call in self.CALLS:
            hours = list(self.HOURS)
            self.assertEqual(call(hours), call(hours))


if __name__ == "__main__":
    unittest.main()
