import functools
import itertools
import random
import unittest

from leastfloor.planrows import apart, hours_of, joined, last_moment
from leastfloor.tails import bound, tail_end, tail_plan, why_tail
from looking import look_at_lists

FIFTY = 10 ** 50 - 1


def drawn_works(chance, many, most):
    return [[chance.randint(0, most), chance.randint(1, most), chance.randint(0, most)] for _ in range(many)]


def drawn_floors():
    """None to twelve works, of small numbers and of fifty figures."""
    chance = random.Random(14)
    for most in [1, 2, 4, 9, 1000, FIFTY]:
        for _ in range(150):
            yield drawn_works(chance, chance.randint(0, 12), most)


def plan_by_hours(works):
    """Point 14 hour by hour, joined."""
    left = [hours for _, hours, _ in works]
    rows = []
    moment = 0
    while any(left):
        waiting = [k for k, (come, _, _) in enumerate(works) if come <= moment and left[k]]
        if waiting:
            greatest = max(works[k][2] for k in waiting)
            number = [k for k in waiting if works[k][2] == greatest][0]
            left[number] -= 1
            rows.append([0, number, moment, moment + 1])
        moment += 1
    return joined(rows)


def least_end_of_all_orders(works):
    """The least end over every way to give the bench's hours to the works, waiting too."""

    @functools.lru_cache(maxsize=None)
    def least(moment, left):
        if not any(left):
            return 0
        ends = []
        if any(hours and come > moment for (come, _, _), hours in zip(works, left)):
            ends.append(least(moment + 1, left))
        for k, (come, _, tail) in enumerate(works):
            if left[k] and come <= moment:
                rest = left[:k] + (left[k] - 1,) + left[k + 1:]
                ends.append(max(least(moment + 1, rest), 0 if rest[k] else moment + 1 + tail))
        return min(ends)

    return least(0, tuple(hours for _, hours, _ in works))


def till(rows, moment):
    """What the rows say ahead of the moment."""
    return [[bench, work, begin, min(end, moment)] for bench, work, begin, end in rows if begin < moment]


class TailPlan(unittest.TestCase):

    def test_no_works(self):
        self.assertEqual(tail_plan([]), [])
        self.assertEqual(tail_end([]), 0)

    def test_one_work(self):
        self.assertEqual(tail_plan([[3, 2, 7]]), [[0, 0, 3, 5]])
        self.assertEqual(tail_end([[3, 2, 7]]), 12)
        self.assertEqual(tail_end([[0, 1, 0]]), 1)

    def test_works_that_come_at_one_moment(self):
        works = [[2, 1, 0], [2, 3, 5], [2, 2, 4], [2, 1, 5]]
        self.assertEqual(tail_plan(works), [[0, 1, 2, 5], [0, 3, 5, 6], [0, 2, 6, 8], [0, 0, 8, 9]])
        self.assertEqual(tail_end(works), 12)

    def test_a_greater_tail_comes_while_another_is_at_the_bench(self):
        self.assertEqual(tail_plan([[0, 5, 1], [2, 2, 2]]), [[0, 0, 0, 2], [0, 1, 2, 4], [0, 0, 4, 7]])
        self.assertEqual(tail_end([[0, 5, 1], [2, 2, 2]]), 8)

    def test_a_like_tail_comes_with_a_greater_number(self):
        self.assertEqual(tail_plan([[0, 5, 1], [2, 2, 1]]), [[0, 0, 0, 5], [0, 1, 5, 7]])

    def test_a_like_tail_comes_with_a_lesser_number(self):
        self.assertEqual(tail_plan([[2, 2, 1], [0, 5, 1]]), [[0, 1, 0, 2], [0, 0, 2, 4], [0, 1, 4, 7]])

    def test_a_lesser_tail_comes(self):
        self.assertEqual(tail_plan([[0, 5, 1], [2, 2, 0]]), [[0, 0, 0, 5], [0, 1, 5, 7]])
        self.assertEqual(tail_plan([[2, 2, 0], [0, 5, 1]]), [[0, 1, 0, 5], [0, 0, 5, 7]])

    def test_a_work_comes_just_when_another_ends(self):
        self.assertEqual(tail_plan([[0, 3, 9], [3, 2, 0]]), [[0, 0, 0, 3], [0, 1, 3, 5]])
        self.assertEqual(tail_plan([[0, 3, 0], [3, 2, 9], [0, 1, 0]]), [[0, 0, 0, 3], [0, 1, 3, 5], [0, 2, 5, 6]])

    def test_a_gap_in_which_nothing_has_come(self):
        self.assertEqual(tail_plan([[9, 1, 0], [2, 3, 0]]), [[0, 1, 2, 5], [0, 0, 9, 10]])
        self.assertEqual(tail_end([[9, 1, 0], [2, 3, 6]]), 11)

    def test_broken_off_more_than_once(self):
        works = [[0, 4, 0], [1, 3, 1], [2, 1, 2]]
        self.assertEqual(tail_plan(works), [[0, 0, 0, 1], [0, 1, 1, 2], [0, 2, 2, 3], [0, 1, 3, 5], [0, 0, 5, 8]])

    def test_a_work_that_comes_and_changes_nothing_breaks_no_row(self):
        self.assertEqual(tail_plan([[0, 9, 5], [1, 1, 4], [2, 1, 3]]), [[0, 0, 0, 9], [0, 1, 9, 10], [0, 2, 10, 11]])

    def test_the_end_is_not_the_last_moment(self):
        self.assertEqual(tail_end([[0, 1, 100], [0, 9, 3]]), 101)
        self.assertEqual(tail_end([[0, 1, 11], [0, 9, 3]]), 13)

    def test_numbers_of_fifty_figures(self):
        works = [[0, FIFTY, 1], [FIFTY - 5, 2, FIFTY], [FIFTY, FIFTY, 0]]
        self.assertEqual(tail_plan(works), [[0, 0, 0, FIFTY - 5], [0, 1, FIFTY - 5, FIFTY - 3],
                                            [0, 0, FIFTY - 3, FIFTY + 2], [0, 2, FIFTY + 2, 2 * FIFTY + 2]])
        self.assertEqual(tail_end(works), 2 * FIFTY + 2)

    def test_as_the_definition_tells_it(self):
        for works in drawn_floors():
            rows = tail_plan(works)
            self.assertIs(apart(rows), True)
            self.assertEqual(rows, joined(rows))
            for k, (come, hours, _) in enumerate(works):
                self.assertEqual(hours_of(rows, k), hours)
                self.assertGreaterEqual(min(row[2] for row in rows if row[1] == k), come)
            ends = [last_moment([row for row in rows if row[1] == k]) + works[k][2] for k in range(len(works))]
            self.assertEqual(tail_end(works), max(ends, default=0))
            if all(max(work) < 10 for work in works):
                self.assertEqual(rows, plan_by_hours(works), works)

    def test_works_that_come_later_change_nothing_ahead(self):
        chance = random.Random(140)
        for works in drawn_floors():
            moment = chance.choice([0, 1, 2] + [come for come, _, _ in works])
            early = [k for k, (come, _, _) in enumerate(works) if come < moment]
            alone = [[0, early[row[1]], row[2], row[3]] for row in tail_plan([works[k] for k in early])]
            self.assertEqual(till(alone, moment), till(tail_plan(works), moment), (works, moment))

    def test_no_order_ends_sooner(self):
        chance = random.Random(141)
        for _ in range(400):
            works = drawn_works(chance, chance.randint(0, 5), chance.choice([2, 3, 4]))
            self.assertEqual(tail_end(works), least_end_of_all_orders(works), works)


class BoundAndReason(unittest.TestCase):

    WORKS = [[4, 2, 7], [1, 3, 9], [6, 5, 0], [0, 1, 3]]

    def test_the_bound_of_one_work(self):
        self.assertEqual([bound(self.WORKS, [k]) for k in range(4)], [13, 13, 11, 4])

    def test_the_bound_of_several_works_in_any_order(self):
        for some, told in [([0, 1], 13), ([0, 2], 11), ([1, 3], 7), ([0, 1, 2], 11), ([0, 1, 2, 3], 11)]:
            for order in itertools.permutations(some):
                self.assertEqual(bound(self.WORKS, list(order)), told)

    def test_a_bound_of_fifty_figures(self):
        self.assertEqual(bound([[FIFTY, FIFTY, FIFTY], [FIFTY, 1, FIFTY]], [1, 0]), 3 * FIFTY + 1)

    def test_the_bound_as_the_definition_tells_it(self):
        chance = random.Random(15)
        for works in drawn_floors():
            if works:
                some = chance.sample(range(len(works)), chance.randint(1, len(works)))
                comes, hours, tails = zip(*[works[k] for k in some])
                self.assertEqual(bound(works, some), min(comes) + sum(hours) + min(tails))

    def test_the_reason_of_no_works(self):
        self.assertEqual(why_tail([]), [])

    def test_the_reason_of_one_work(self):
        self.assertEqual(why_tail([[3, 2, 7]]), [0])

    def test_the_only_reason(self):
        self.assertEqual(why_tail([[0, 1, 0], [5, 3, 8], [5, 2, 8], [40, 1, 0]]), [3])
        self.assertEqual(why_tail([[0, 1, 0], [5, 3, 8], [5, 2, 8], [14, 1, 0]]), [1, 2])
        self.assertEqual(why_tail([[0, 9, 0], [5, 3, 8]]), [1])
        self.assertEqual(why_tail([[0, 9, 5], [5, 3, 8]]), [0, 1])

    def test_the_reason_shows_the_end(self):
        for works in drawn_floors():
            reason = why_tail(works)
            self.assertEqual(reason, sorted(set(reason)))
            if works:
                self.assertTrue(set(reason) <= set(range(len(works))))
                self.assertEqual(bound(works, reason), tail_end(works), works)

    def test_no_bound_is_behind_the_end(self):
        chance = random.Random(150)
        for _ in range(150):
            works = drawn_works(chance, chance.randint(1, 6), chance.choice([2, 5, FIFTY]))
            numbers = range(len(works))
            bounds = [bound(works, list(some)) for many in numbers
                      for some in itertools.combinations(numbers, many + 1)]
            self.assertEqual(max(bounds), tail_end(works), works)


class NothingIsChanged(unittest.TestCase):

    def test_lists_handed_in_and_told(self):
        for call in [tail_plan, tail_end, why_tail]:
            for works in [[], [[3, 2, 7]], [[0, 5, 1], [2, 2, 2]], [[0, 3, 9], [3, 2, 0], [9, 1, 4]]]:
                look_at_lists(self, call, [list(work) for work in works])

    def test_the_works_of_a_bound(self):
        look_at_lists(self, bound, [[0, 5, 1], [2, 2, 2], [4, 4, 4]], [2, 0])


if __name__ == "__main__":
    unittest.main()
