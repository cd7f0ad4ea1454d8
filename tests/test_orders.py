import copy
import itertools
import random
import unittest

from leastfloor.errors import NoOrder
from leastfloor.orders import ahead_of, marks, straight_ahead
from looking import look_at_lists

HUGE = 10 ** 59

REFUSED = [(0, [[0, 0]]), (0, [[0, 1]]), (1, [[0, 0]]), (1, [[0, 1]]), (1, [[1, 0]]), (2, [[0, 1], [1, 0]]),
           (3, [[0, 1], [1, 2], [2, 0]]), (3, [[0, 1], [-1, 2]]), (3, [[0, -1]]), (3, [[0, 3]]), (3, [[3, 0]]),
           (3, [[0, HUGE]]), (3, [[-HUGE, 0]]), (14, [[13, 14]]), (14, [[k, (k + 1) % 14] for k in range(14)]),
           (5, [[0, 1], [1, 2], [3, 4], [4, 4]]), (4, [[3, 2], [2, 1], [1, 0], [0, 2]])]


def drawn_needs(chance, many):
    """Needs of works that stand in any order, some told more than once."""
    order = list(range(many))
    chance.shuffle(order)
    pairs = [list(pair) for pair in itertools.combinations(order, 2)]
    needs = [pair for pair in pairs if chance.random() < chance.choice([0.05, 0.2, 0.5])]
    needs += [list(chance.choice(needs)) for _ in range(chance.randint(0, 3)) if needs]
    chance.shuffle(needs)
    return needs


def drawn_orders():
    chance = random.Random(21)
    yield 0, []
    for _ in range(500):
        many = chance.randint(1, 14)
        yield many, drawn_needs(chance, many)


def reach_of(needs, work):
    """All works that can be come to from the work by way of needs."""
    found = set()
    looked = [work]
    while looked:
        first = looked.pop()
        for later in {b for a, b in needs if a == first} - found:
            found.add(later)
            looked.append(later)
    return found


def straight_of(needs, work):
    reach = reach_of(needs, work)
    return {later for later in reach if not any(later in reach_of(needs, between) for between in reach)}


def less(row, other):
    """Whether the row is less than the other one, number by number, as point 21 tells it."""
    for one, two in zip(row, other):
        if one != two:
            return one < two
    return len(row) < len(other)


def marks_by_definition(many, needs):
    """Point 21 word by word."""
    ahead = [reach_of(needs, work) for work in range(many)]
    straight = [straight_of(needs, work) for work in range(many)]
    told = {}
    for mark in range(1, many + 1):
        best = None
        for work in range(many):
            if work in told or not all(later in told for later in ahead[work]):
                continue
            row = sorted((told[later] for later in straight[work]), reverse=True)
            if best is None or less(row, best[0]):
                best = (row, work)
        told[best[1]] = mark
    return [told[work] for work in range(many)]


class AheadOf(unittest.TestCase):

    def test_no_works(self):
        for call in [ahead_of, straight_ahead, marks]:
            self.assertEqual(call(0, []), [])

    def test_no_needs(self):
        self.assertEqual(ahead_of(3, []), [[], [], []])
        self.assertEqual(straight_ahead(3, []), [[], [], []])

    def test_by_way_of_others(self):
        needs = [[2, 1], [0, 2], [3, 0]]
        self.assertEqual(ahead_of(4, needs), [[1, 2], [], [1], [0, 1, 2]])
        self.assertEqual(straight_ahead(4, needs), [[2], [], [1], [0]])

    def test_needs_told_more_than_once(self):
        needs = [[0, 1], [0, 1], [1, 2], [0, 1], [1, 2]]
        self.assertEqual(ahead_of(3, needs), [[1, 2], [2], []])
        self.assertEqual(straight_ahead(3, needs), [[1], [2], []])

    def test_what_is_told_need_not_be_straight(self):
        needs = [[0, 3], [0, 1], [1, 2], [2, 3], [1, 3]]
        self.assertEqual(ahead_of(4, needs), [[1, 2, 3], [2, 3], [3], []])
        self.assertEqual(straight_ahead(4, needs), [[1], [2], [3], []])

    def test_two_ways_to_one_work(self):
        needs = [[0, 2], [0, 1], [1, 3], [2, 3]]
        self.assertEqual(ahead_of(4, needs), [[1, 2, 3], [3], [3], []])
        self.assertEqual(straight_ahead(4, needs), [[1, 2], [3], [3], []])

    def test_fourteen_works(self):
        chain = [[k, k + 1] for k in range(13)]
        self.assertEqual(ahead_of(14, chain), [list(range(k + 1, 14)) for k in range(14)])
        whole = [list(pair) for pair in itertools.combinations(range(14), 2)]
        self.assertEqual(ahead_of(14, whole), ahead_of(14, chain))
        self.assertEqual(straight_ahead(14, whole), [[k + 1] for k in range(13)] + [[]])

    def test_refusals(self):
        for many, needs in REFUSED:
            for call in [ahead_of, straight_ahead, marks]:
                with self.assertRaises(NoOrder, msg=(call, many, needs)):
                    call(many, needs)

    def test_a_drawn_order_with_a_ring(self):
        chance = random.Random(210)
        for many, needs in drawn_orders():
            ahead = [(work, later) for work in range(many) for later in reach_of(needs, work)]
            if ahead:
                work, later = chance.choice(ahead)
                for call in [ahead_of, straight_ahead, marks]:
                    with self.assertRaises(NoOrder):
                        call(many, needs + [[later, work]])

    def test_as_the_definition_tells_it(self):
        for many, needs in drawn_orders():
            self.assertEqual(ahead_of(many, needs), [sorted(reach_of(needs, work)) for work in range(many)])
            self.assertEqual(straight_ahead(many, needs), [sorted(straight_of(needs, work)) for work in range(many)])


class Marks(unittest.TestCase):

    def test_rows_that_are_alike(self):
        self.assertEqual(marks(1, []), [1])
        self.assertEqual(marks(4, []), [1, 2, 3, 4])
        self.assertEqual(marks(4, [[0, 3], [1, 3], [2, 3]]), [2, 3, 4, 1])

    def test_a_row_that_another_one_begins_with(self):
        # Row of 0: [2, 1], row of 1: [2]: the lesser row is that which the other one begins with.
        self.assertEqual(marks(4, [[0, 2], [0, 3], [1, 3]]), [4, 3, 1, 2])
        self.assertEqual(marks(4, [[0, 2], [0, 3], [1, 2]]), [4, 3, 1, 2])

    def test_the_first_number_that_is_unlike(self):
        # Rows of marks [3], [2, 1]: the greatest mark is looked at first.
        self.assertEqual(marks(5, [[0, 4], [1, 2], [1, 3]]), [5, 4, 1, 2, 3])

    def test_rows_have_the_straight_works_alone(self):
        # 0 is straight ahead of 2 alone: its row is [3], that of 1 is [3, 1]. With what was told it would be [3, 2].
        self.assertEqual(marks(5, [[0, 2], [0, 4], [1, 2], [1, 3], [2, 4]]), [4, 5, 3, 1, 2])

    def test_a_chain(self):
        self.assertEqual(marks(14, [[k, k + 1] for k in range(13)]), list(range(14, 0, -1)))

    def test_as_the_definition_tells_it(self):
        for many, needs in drawn_orders():
            self.assertEqual(marks(many, needs), marks_by_definition(many, needs), (many, needs))


class NothingIsChanged(unittest.TestCase):

    def test_lists_handed_in_and_told(self):
        for call in [ahead_of, straight_ahead, marks]:
            for many, needs in [(0, []), (3, []), (4, [[0, 3], [0, 1], [1, 2], [2, 3], [0, 3]])]:
                look_at_lists(self, call, many, copy.deepcopy(needs))

    def test_a_refusal_changes_nothing(self):
        for many, needs in REFUSED:
            before = copy.deepcopy(needs)
            with self.assertRaises(NoOrder):
                marks(many, needs)
            self.assertEqual(needs, before)


if __name__ == "__main__":
    unittest.main()
