import itertools
import random
import unittest

from leastfloor.alike import least_end
from leastfloor.planrows import apart, hours_of, joined
from leastfloor.tails import tail_end
from leastfloor.windows import no_window, room, window_plan
from looking import look_at_lists

FIFTY = 10 ** 50 - 1


def drawn_works(chance, many, most):
    """Works with windows up to the most, mostly of fewer hours than these are long."""
    works = []
    for _ in range(many):
        come, due = sorted([chance.randint(0, most), chance.randint(0, most)])
        length = due - come
        hours = chance.choice([chance.randint(0, length), chance.randint(0, length // 2), length // 3, length])
        works.append([come, due, hours + (chance.random() < 0.15)])
    return works


def drawn_floors():
    """None to eight works on one to eight benches, of small numbers and of fifty figures."""
    chance = random.Random(17)
    for most in [1, 2, 5, 9, 1000, FIFTY]:
        for _ in range(150):
            yield drawn_works(chance, chance.randint(0, 8), most), chance.choice([1, 1, 2, 2, 3, 4, 8])


def put_off(works, hours):
    return [[come + hours, due + hours, wanted] for come, due, wanted in works]


def plan_by_trying(works, benches):
    """Whether there is a plan, hour by hour, every choice tried."""
    states = {tuple(work[2] for work in works)}
    for moment in range(max((work[1] for work in works), default=0)):
        later = set()
        for left in states:
            ready = [k for k, (come, due, _) in enumerate(works) if come <= moment < due and left[k]]
            for chosen in itertools.combinations(ready, min(benches, len(ready))):
                later.add(tuple(hours - (k in chosen) for k, hours in enumerate(left)))
        states = later
    return any(sum(left) == 0 for left in states)


def room_by_hours(works, benches, some, stretches):
    """Point 17 hour by hour, for small numbers."""
    covered = {moment for begin, end in stretches for moment in range(begin, end)}
    outside = [moment for k in some for moment in range(works[k][0], works[k][1]) if moment not in covered]
    return len(covered) * benches + len(outside)


def drawn_stretches(chance, low, high):
    """Stretches of which no moment lies in two, in any order."""
    moments = sorted(chance.sample(range(low, high), 2 * chance.randint(0, 4)))
    stretches = [moments[k:k + 2] for k in range(0, len(moments), 2)]
    if len(stretches) > 1 and chance.random() < 0.5:
        stretches[0][1] = stretches[1][0]
    chance.shuffle(stretches)
    return stretches


class Looking(unittest.TestCase):

    def look_at_plan(self, works, benches, rows):
        """The rules of points 4, 6 and 16."""
        self.assertIs(apart(rows), True, (works, benches))
        self.assertEqual(rows, joined(rows))
        self.assertEqual(rows, sorted(rows, key=lambda row: (row[2], row[0])))
        for bench, work, begin, end in rows:
            self.assertLess(bench, benches)
            self.assertLessEqual(works[work][0], begin)
            self.assertLessEqual(end, works[work][1])
        self.assertEqual([hours_of(rows, k) for k in range(len(works))], [work[2] for work in works])

    def look_at_reason(self, works, benches, told):
        """The rules of point 17."""
        self.assertIs(type(told), tuple)
        some, stretches = told
        self.assertEqual(some, sorted(set(some)))
        self.assertTrue(set(some) <= set(range(len(works))))
        self.assertEqual(stretches, sorted(stretches))
        for begin, end in stretches:
            self.assertLessEqual(0, begin)
            self.assertLess(begin, end)
        for one, other in zip(stretches, stretches[1:]):
            self.assertLessEqual(one[1], other[0])
        self.assertGreater(sum(works[k][2] for k in some), room(works, benches, some, stretches), (works, benches))

    def look_at(self, works, benches):
        """Just one of plan and reason is there, and it is right; whether it is the plan is told."""
        rows = window_plan(works, benches)
        told = no_window(works, benches)
        self.assertIs(rows is None, told is not None, (works, benches))
        if rows is None:
            self.look_at_reason(works, benches, told)
        else:
            self.look_at_plan(works, benches, rows)
        return rows is not None


class WindowPlan(Looking):

    def test_no_works(self):
        for benches in [1, 8]:
            self.assertEqual(window_plan([], benches), [])
            self.assertIs(no_window([], benches), None)

    def test_works_of_no_hours(self):
        self.assertEqual(window_plan([[2, 7, 0]], 1), [])
        self.assertEqual(window_plan([[2, 7, 0], [3, 3, 0]], 1), [])
        self.assertEqual(window_plan([[2, 7, 0], [3, 4, 1]], 1), [[0, 1, 3, 4]])

    def test_a_window_of_no_length(self):
        self.assertIs(self.look_at([[4, 4, 0]], 1), True)
        self.assertIs(self.look_at([[4, 4, 1]], 1), False)
        self.assertIs(self.look_at([[0, 9, 3], [4, 4, 1]], 8), False)
        self.assertIs(self.look_at([[0, 9, 3], [4, 4, 0]], 8), True)

    def test_a_window_filled_to_the_last_hour(self):
        self.assertEqual(window_plan([[2, 7, 5]], 1), [[0, 0, 2, 7]])
        self.assertIs(window_plan([[2, 7, 6]], 1), None)
        self.assertIs(window_plan([[2, 7, 6]], 8), None)

    def test_one_bench_filled_to_the_last_hour(self):
        self.assertIs(self.look_at([[0, 6, 2], [0, 2, 2], [2, 4, 2]], 1), True)
        self.assertIs(self.look_at([[0, 6, 3], [0, 2, 2], [2, 4, 2]], 1), False)
        self.assertIs(self.look_at([[0, 6, 2], [0, 4, 3], [2, 4, 2]], 1), False)

    def test_several_benches_filled_to_the_last_hour(self):
        self.assertIs(self.look_at([[0, 3, 2], [0, 3, 2], [0, 3, 2]], 2), True)
        self.assertIs(self.look_at([[0, 3, 2], [0, 3, 2], [0, 3, 3]], 2), False)
        self.assertIs(self.look_at([[0, 4, 4]] * 8, 8), True)
        self.assertIs(self.look_at([[0, 4, 4]] * 8, 7), False)

    def test_rows_that_go_on_over_a_moment_are_one(self):
        self.assertEqual(window_plan([[0, 9, 9], [3, 3, 0], [5, 7, 0]], 1), [[0, 0, 0, 9]])

    def test_windows_of_fifty_figures(self):
        self.assertIs(self.look_at([[0, FIFTY, FIFTY]] * 3, 3), True)
        self.assertIs(self.look_at([[0, FIFTY, FIFTY]] * 2 + [[5, 6, 1]], 2), False)
        self.assertIs(self.look_at([[0, FIFTY, FIFTY - 1]] * 2 + [[5, 6, 1]], 2), True)

    def test_all_put_off_by_a_number_of_fifty_figures(self):
        chance = random.Random(18)
        for _ in range(150):
            works = drawn_works(chance, chance.randint(0, 8), chance.choice([3, 9, FIFTY // 2]))
            benches = chance.randint(1, 3)
            later = put_off(works, FIFTY // 2)
            self.assertIs(self.look_at(works, benches), self.look_at(later, benches))

    def test_plan_or_reason(self):
        found = [self.look_at(works, benches) for works, benches in drawn_floors()]
        self.assertGreater(found.count(True), 200)
        self.assertGreater(found.count(False), 200)

    def test_none_just_where_there_is_none(self):
        chance = random.Random(160)
        found = []
        for _ in range(300):
            works = drawn_works(chance, chance.randint(0, 4), chance.choice([2, 4, 5]))
            benches = chance.randint(1, 3)
            found.append(self.look_at(works, benches))
            self.assertIs(found[-1], plan_by_trying(works, benches), (works, benches))
        self.assertGreater(found.count(True), 50)
        self.assertGreater(found.count(False), 50)


class OneKindInAnother(Looking):

    def test_benches_alike_need_the_windows_to_the_least_end(self):
        chance = random.Random(3)
        for _ in range(200):
            hours = [chance.randint(0, chance.choice([3, 9, FIFTY])) for _ in range(chance.randint(1, 8))]
            benches = chance.randint(1, 8)
            end = least_end(hours, benches)
            self.assertIs(self.look_at([[0, end, wanted] for wanted in hours], benches), True)
            if end:
                self.assertIs(self.look_at([[0, end - 1, wanted] for wanted in hours], benches), False)

    def test_windows_on_one_bench_and_tails(self):
        chance = random.Random(33)
        found = []
        for _ in range(400):
            works = drawn_works(chance, chance.randint(1, 5), chance.choice([4, 9, 30, FIFTY]))
            works = [work for work in works if work[2] >= 1]
            last = max((due for _, due, _ in works), default=0)
            end = tail_end([[come, hours, last - due] for come, due, hours in works])
            found.append(end <= last)
            self.assertIs(self.look_at(works, 1), end <= last, works)
        self.assertGreater(found.count(True), 50)
        self.assertGreater(found.count(False), 50)


class Room(unittest.TestCase):

    WORKS = [[2, 7, 3], [4, 4, 0], [0, 9, 1]]

    def test_no_works(self):
        self.assertEqual(room([], 3, [], []), 0)
        self.assertEqual(room(self.WORKS, 3, [], []), 0)
        self.assertEqual(room(self.WORKS, 3, [], [[1, 4], [6, 7]]), 12)

    def test_no_stretches(self):
        self.assertEqual([room(self.WORKS, 3, [k], []) for k in range(3)], [5, 0, 9])
        self.assertEqual(room(self.WORKS, 1, [0, 1, 2], []), 14)

    def test_works_and_stretches_in_any_order(self):
        stretches = [[0, 1], [1, 3], [6, 8]]
        for order in itertools.permutations(stretches):
            for some in itertools.permutations([0, 1, 2]):
                self.assertEqual(room(self.WORKS, 2, list(some), list(order)), 10 + 3 + 0 + 4)

    def test_stretches_that_begin_below_nought(self):
        self.assertEqual(room(self.WORKS, 2, [0], [[-5, -2]]), 6 + 5)
        self.assertEqual(room(self.WORKS, 2, [0], [[-5, 3]]), 16 + 4)
        self.assertEqual(room(self.WORKS, 2, [2], [[-5, 0]]), 10 + 9)
        self.assertEqual(room(self.WORKS, 2, [2], [[-5, 1]]), 12 + 8)

    def test_stretches_outside_of_the_windows(self):
        self.assertEqual(room(self.WORKS, 2, [0], [[0, 1], [8, 9]]), 4 + 5)
        self.assertEqual(room(self.WORKS, 2, [0], [[0, 2], [7, 9]]), 8 + 5)
        self.assertEqual(room(self.WORKS, 2, [0], [[0, 3], [6, 9]]), 12 + 3)
        self.assertEqual(room(self.WORKS, 2, [0], [[0, 20]]), 40 + 0)

    def test_stretches_that_begin_or_end_where_a_window_does(self):
        self.assertEqual(room(self.WORKS, 2, [0], [[2, 7]]), 10 + 0)
        self.assertEqual(room(self.WORKS, 2, [0], [[2, 3]]), 2 + 4)
        self.assertEqual(room(self.WORKS, 2, [0], [[6, 7]]), 2 + 4)
        self.assertEqual(room(self.WORKS, 2, [1], [[4, 5]]), 2 + 0)

    def test_numbers_of_fifty_and_sixty_figures(self):
        huge = 10 ** 59
        self.assertEqual(room([[0, FIFTY, 1]], 3, [0], [[-huge, 1], [FIFTY - 1, huge]]),
                         3 * (2 * huge + 2 - FIFTY) + FIFTY - 2)

    def test_as_the_definition_tells_it(self):
        chance = random.Random(170)
        for _ in range(600):
            works = drawn_works(chance, chance.randint(0, 8), 12)
            some = chance.sample(range(len(works)), chance.randint(0, len(works)))
            stretches = drawn_stretches(chance, -6, 20)
            benches = chance.randint(1, 8)
            self.assertEqual(room(works, benches, some, stretches), room_by_hours(works, benches, some, stretches))


class NoWindow(Looking):

    def test_one_work_alone(self):
        # One work that is longer than its window needs no stretch: by itself it has too little room.
        some, stretches = no_window([[2, 7, 6]], 3)
        self.assertEqual(some, [0])
        self.assertGreater(6, room([[2, 7, 6]], 3, some, stretches))
        self.assertEqual(no_window([[4, 4, 1]], 1), ([0], []))

    def test_beside_works_that_are_in_nobodys_way(self):
        for works in [[[0, 4, 3], [10, 20, 2], [0, 4, 3], [5, 6, 1]], [[0, 4, 2], [0, 9, 2], [1, 2, 1], [0, 4, 2]]]:
            self.assertIs(self.look_at(works, 1), False)


class NothingIsChanged(unittest.TestCase):

    FLOORS = [[], [[4, 4, 3]], [[2, 7, 3]], [[0, 6, 2], [0, 2, 2], [2, 4, 2]], [[0, 3, 3], [0, 3, 3], [1, 3, 1]]]

    def test_lists_handed_in_and_told(self):
        for call in [window_plan, no_window]:
            for works in self.FLOORS:
                look_at_lists(self, call, [list(work) for work in works], 2)

    def test_the_works_and_stretches_of_a_room(self):
        look_at_lists(self, room, [[0, 3, 3], [1, 9, 3]], 2, [1, 0], [[5, 6], [0, 2]])


if __name__ == "__main__":
    unittest.main()
