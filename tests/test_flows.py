import itertools
import random
import unittest

from leastfloor.flows import shares
from looking import look_at_lists

FIFTY = 10 ** 50 - 1


def drawn_works(chance, many, most):
    works = []
    for _ in range(many):
        come, due = sorted([chance.randint(0, most), chance.randint(0, most)])
        works.append([come, due, chance.choice([chance.randint(0, most), chance.randint(0, due - come), due - come])])
    return works


def drawn_floors():
    """None to eight works on one to eight benches, of small numbers and of fifty figures."""
    chance = random.Random(16)
    for most in [1, 2, 4, 9, 1000, FIFTY]:
        for _ in range(100):
            yield drawn_works(chance, chance.randint(0, 8), most), chance.choice([1, 1, 2, 2, 3, 8])


def most_by_cuts(works, benches, stretches):
    """The most hours that can be laid, as the least cut: some works count by what their stretches can have."""
    cuts = []
    for some in itertools.product([True, False], repeat=len(works)):
        cut = sum(work[2] for work, inside in zip(works, some) if not inside)
        for begin, end in stretches:
            open_to = sum(inside and work[0] <= begin and end <= work[1] for work, inside in zip(works, some))
            cut += (end - begin) * min(open_to, benches)
        cuts.append(cut)
    return min(cuts)


def most_by_trying(works, benches):
    """The most hours that can be laid, hour by hour, every choice tried."""
    best = {tuple(work[2] for work in works)}
    for moment in range(max((work[1] for work in works), default=0)):
        later = set()
        for left in best:
            ready = [k for k, (come, due, _) in enumerate(works) if come <= moment < due and left[k]]
            for chosen in itertools.combinations(ready, min(benches, len(ready))):
                later.add(tuple(hours - (k in chosen) for k, hours in enumerate(left)))
        best = later
    return sum(work[2] for work in works) - min(sum(left) for left in best)


class Shares(unittest.TestCase):

    def look_at(self, works, benches):
        """Each rule of the interface's sentence; the hours of all together are told."""
        told = shares(works, benches)
        self.assertIs(type(told), tuple)
        stretches, table = told
        moments = sorted({moment for come, due, _ in works for moment in (come, due)})
        self.assertEqual(stretches, [[moments[k], moments[k + 1]] for k in range(len(moments) - 1)], works)
        self.assertEqual(len(table), len(works))
        for (come, due, hours), row in zip(works, table):
            self.assertEqual(len(row), len(stretches))
            self.assertLessEqual(sum(row), hours)
            for (begin, end), share in zip(stretches, row):
                self.assertGreaterEqual(share, 0)
                self.assertLessEqual(share, end - begin if come <= begin and end <= due else 0, works)
        for k, (begin, end) in enumerate(stretches):
            self.assertLessEqual(sum(row[k] for row in table), (end - begin) * benches, works)
        return sum(sum(row) for row in table)

    def test_no_works(self):
        self.assertEqual(shares([], 1), ([], []))
        self.assertEqual(shares([], 8), ([], []))

    def test_one_work(self):
        self.assertEqual(shares([[2, 7, 3]], 1), ([[2, 7]], [[3]]))
        self.assertEqual(shares([[2, 7, 5]], 1), ([[2, 7]], [[5]]))
        self.assertEqual(shares([[2, 7, 9]], 4), ([[2, 7]], [[5]]))

    def test_works_of_no_hours(self):
        self.assertEqual(shares([[2, 7, 0]], 1), ([[2, 7]], [[0]]))
        self.assertEqual(shares([[2, 7, 0], [3, 4, 0]], 2), ([[2, 3], [3, 4], [4, 7]], [[0, 0, 0], [0, 0, 0]]))

    def test_a_window_of_no_length(self):
        self.assertEqual(shares([[4, 4, 0]], 1), ([], [[]]))
        self.assertEqual(shares([[4, 4, 3], [4, 4, 0]], 1), ([], [[], []]))
        self.assertEqual(shares([[4, 4, 3], [2, 7, 5]], 1), ([[2, 4], [4, 7]], [[0, 0], [2, 3]]))

    def test_comes_and_dues_that_are_alike(self):
        self.assertEqual(shares([[0, 3, 3], [3, 5, 2], [0, 5, 0]], 1), ([[0, 3], [3, 5]], [[3, 0], [0, 2], [0, 0]]))
        self.assertEqual(self.look_at([[0, 4, 3], [0, 4, 3], [0, 4, 3]], 2), 8)

    def test_no_stretch_ahead_of_the_first_come(self):
        self.assertEqual(shares([[5, 6, 1], [8, 9, 1]], 1)[0], [[5, 6], [6, 8], [8, 9]])

    def test_a_work_makes_room_for_another(self):
        # The first work can have hours anywhere; the others each in one stretch alone.
        self.assertEqual(self.look_at([[0, 6, 2], [0, 2, 2], [2, 4, 2]], 1), 6)
        self.assertEqual(self.look_at([[0, 6, 2], [2, 4, 2], [4, 6, 2]], 1), 6)
        self.assertEqual(self.look_at([[0, 6, 2], [0, 4, 2], [0, 2, 2]], 1), 6)
        self.assertEqual(self.look_at([[0, 2, 2], [0, 4, 2], [0, 6, 2]], 1), 6)

    def test_no_work_at_two_benches_at_once(self):
        self.assertEqual(self.look_at([[0, 3, 6], [0, 3, 1]], 2), 4)

    def test_numbers_of_fifty_figures(self):
        self.assertEqual(self.look_at([[0, FIFTY, FIFTY], [FIFTY // 3, FIFTY, FIFTY], [1, 2, FIFTY]], 2),
                         FIFTY + (FIFTY - FIFTY // 3) + 1)
        self.assertEqual(self.look_at([[0, FIFTY, FIFTY]] * 8, 8), 8 * FIFTY)
        self.assertEqual(self.look_at([[0, FIFTY, FIFTY]] * 8, 7), 7 * FIFTY)
        self.assertEqual(self.look_at([[FIFTY - 1, FIFTY, FIFTY]] * 2, 1), 1)

    def test_as_many_as_can_be(self):
        for works, benches in drawn_floors():
            laid = self.look_at(works, benches)
            self.assertEqual(laid, most_by_cuts(works, benches, shares(works, benches)[0]), (works, benches))

    def test_no_choice_lays_more(self):
        chance = random.Random(160)
        for _ in range(200):
            works = drawn_works(chance, chance.randint(0, 4), chance.choice([2, 4, 5]))
            benches = chance.randint(1, 3)
            self.assertEqual(self.look_at(works, benches), most_by_trying(works, benches), (works, benches))


class NothingIsChanged(unittest.TestCase):

    def test_lists_handed_in_and_told(self):
        for works in [[], [[4, 4, 3]], [[2, 7, 3]], [[0, 6, 2], [0, 2, 2], [2, 4, 2]], [[0, 3, 6], [0, 3, 1]]]:
            look_at_lists(self, shares, [list(work) for work in works], 2)


if __name__ == "__main__":
    unittest.main()
