import random
import unittest

from leastfloor.openfloor import open_plan, why_open
from leastfloor.phases import loads, open_end
from leastfloor.planrows import apart, joined, last_moment
from looking import look_at_lists

FIFTY = 10 ** 50 - 1


def drawn_tables():
    """Tables of none to six hands and benches, with many hours of 0 and with few."""
    chance = random.Random(13)
    for most in [1, 2, 5, 100, FIFTY]:
        for _ in range(200):
            benches = chance.randint(0, 6)
            filled = chance.choice([0.1, 0.4, 0.8, 1])
            yield [[chance.randint(0, most) if chance.random() < filled else 0 for _ in range(benches)]
                   for _ in range(chance.randint(0, 6))]


class OpenPlan(unittest.TestCase):

    def look_at(self, table):
        """The rules of points 4, 6, 11 and 13."""
        rows = open_plan(table)
        self.assertIs(apart(rows), True, table)
        self.assertEqual(rows, joined(rows), table)
        self.assertEqual(rows, sorted(rows, key=lambda row: (row[2], row[0])), table)
        done = [[0] * len(row) for row in table]
        for bench, hand, begin, end in rows:
            done[hand][bench] += end - begin
        self.assertEqual(done, table)
        self.assertEqual(last_moment(rows), open_end(table), table)

    def test_no_rows(self):
        for table in [[], [[]], [[], []], [[0]], [[0, 0], [0, 0]]]:
            self.assertEqual(open_plan(table), [])

    def test_bench_ahead_of_hand(self):
        self.assertEqual(open_plan([[0, 0, 4]]), [[2, 0, 0, 4]])
        self.assertEqual(open_plan([[0], [0], [4]]), [[0, 2, 0, 4]])

    def test_rows_that_go_on_are_one(self):
        # Hand 1 has one bench alone, and its load is the least end: so it is one row, whatever the phases are.
        table = [[1, 0, 2], [0, 6, 0], [2, 0, 3]]
        self.assertIn([1, 1, 0, 6], open_plan(table))
        self.look_at(table)

    def test_ordinary_tables(self):
        for table in [[[1, 2], [0, 3]], [[3, 0, 5, 1]], [[3], [0], [5]], [[1, 1, 1], [2, 0, 0], [0, 2, 0]],
                      [[7] * 6] * 6, [[FIFTY] * 6] * 6]:
            self.look_at(table)

    def test_as_the_definition_tells_it(self):
        for table in drawn_tables():
            self.look_at(table)

    def test_one_hand_or_one_bench_is_one_bench_alike(self):
        # A bench alike without a gap: each row begins where the one ahead of it ends.
        chance = random.Random(3)
        for _ in range(100):
            hours = [chance.randint(0, 4) for _ in range(chance.randint(1, 6))]
            for table in [[hours], [[each] for each in hours]]:
                moment = 0
                for _, _, begin, end in open_plan(table):
                    self.assertEqual(begin, moment)
                    moment = end
                self.assertEqual(moment, sum(hours))


class WhyOpen(unittest.TestCase):

    def test_no_hand(self):
        self.assertEqual(why_open([]), [])

    def test_hands_without_benches_or_hours(self):
        self.assertEqual(why_open([[]]), [0, 0])
        self.assertIn(why_open([[], []]), [[0, 0], [0, 1]])
        self.assertIn(why_open([[0]]), [[0, 0], [1, 0]])

    def test_one_hand_needs_it(self):
        self.assertEqual(why_open([[1, 1], [2, 4]]), [0, 1])

    def test_one_bench_needs_it(self):
        self.assertEqual(why_open([[1, 3], [2, 4]]), [1, 1])
        self.assertEqual(why_open([[0, FIFTY], [FIFTY, 1], [0, 1]]), [1, 1])

    def test_the_load_is_the_greatest(self):
        for table in drawn_tables():
            told = why_open(table)
            if not table:
                self.assertEqual(told, [])
                continue
            self.assertIs(type(told), list)
            self.assertEqual(len(told), 2)
            self.assertIn(told[0], [0, 1])
            self.assertGreaterEqual(told[1], 0)
            self.assertEqual(loads(table)[told[0]][told[1]], open_end(table), table)


class NothingIsChanged(unittest.TestCase):

    def test_lists_handed_in_and_told(self):
        for call in [open_plan, why_open]:
            for table in [[], [[]], [[], []], [[0, 0]], [[1, 2], [0, 3], [4, 0]], [[1, 1], [1, 1]]]:
                look_at_lists(self, call, [list(row) for row in table])


if __name__ == "__main__":
    unittest.main()
