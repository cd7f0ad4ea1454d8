import random
import unittest

from leastfloor.alike import least_end
from leastfloor.phases import loads, open_end, phases
from looking import look_at_lists

FIFTY = 10 ** 50 - 1


def drawn_table(chance, most):
    """A table of none to six hands and benches, its hours up to the most, many of them 0 or few."""
    hands = chance.randint(0, 6)
    benches = chance.randint(0, 6)
    filled = chance.choice([0.1, 0.4, 0.8, 1])
    return [[chance.randint(0, most) if chance.random() < filled else 0 for _ in range(benches)]
            for _ in range(hands)]


def drawn_tables():
    chance = random.Random(12)
    for most in [1, 2, 5, 100, FIFTY]:
        for _ in range(250):
            yield drawn_table(chance, most)


class Loads(unittest.TestCase):

    def test_no_hands(self):
        self.assertEqual(loads([]), ([], []))
        self.assertEqual(open_end([]), 0)

    def test_hands_without_benches(self):
        self.assertEqual(loads([[]]), ([0], []))
        self.assertEqual(loads([[], [], []]), ([0, 0, 0], []))
        self.assertEqual(open_end([[], []]), 0)

    def test_an_ordinary_table(self):
        self.assertEqual(loads([[1, 2], [0, 3], [4, 0]]), ([3, 3, 4], [5, 5]))
        self.assertEqual(open_end([[1, 2], [0, 3], [4, 0]]), 5)

    def test_the_greatest_load_is_a_hands(self):
        self.assertEqual(loads([[1, 2, 3], [0, 0, 1]]), ([6, 1], [1, 2, 4]))
        self.assertEqual(open_end([[1, 2, 3], [0, 0, 1]]), 6)

    def test_a_hand_and_a_bench_without_hours(self):
        self.assertEqual(loads([[0, 0, 0], [2, 0, 7]]), ([0, 9], [2, 0, 7]))
        self.assertEqual(open_end([[0, 0, 0], [2, 0, 7]]), 9)

    def test_one_hand_and_one_bench(self):
        self.assertEqual(loads([[4]]), ([4], [4]))
        self.assertEqual(loads([[4, 0, 1]]), ([5], [4, 0, 1]))
        self.assertEqual(loads([[4], [0], [1]]), ([4, 0, 1], [5]))
        self.assertEqual([open_end([[4]]), open_end([[4, 0, 1]]), open_end([[4], [0], [1]])], [4, 5, 5])

    def test_six_hands_and_six_benches(self):
        table = [[6 * hand + bench for bench in range(6)] for hand in range(6)]
        self.assertEqual(loads(table), ([15, 51, 87, 123, 159, 195], [90, 96, 102, 108, 114, 120]))
        self.assertEqual(open_end(table), 195)

    def test_hours_of_fifty_figures(self):
        self.assertEqual(loads([[FIFTY, 1], [FIFTY, 0]]), ([FIFTY + 1, FIFTY], [2 * FIFTY, 1]))
        self.assertEqual(open_end([[FIFTY, 1], [FIFTY, 0]]), 2 * FIFTY)
        self.assertEqual(open_end([[FIFTY] * 6] * 6), 6 * FIFTY)

    def test_nought_hours_alone(self):
        self.assertEqual(loads([[0, 0], [0, 0]]), ([0, 0], [0, 0]))
        self.assertEqual(open_end([[0, 0], [0, 0]]), 0)

    def test_a_tuple_of_two_lists(self):
        for table in [[], [[]], [[1, 2]]]:
            told = loads(table)
            self.assertIs(type(told), tuple)
            self.assertEqual([type(each) for each in told], [list, list])

    def test_as_the_definition_tells_it(self):
        for table in drawn_tables():
            hands = [sum(row) for row in table]
            benches = [sum(column) for column in zip(*table)]
            self.assertEqual(loads(table), (hands, benches), table)
            self.assertEqual(open_end(table), max(hands + benches + [0]), table)


class Phases(unittest.TestCase):

    def look_at(self, table):
        """Point 12 word by word."""
        told = phases(table)
        self.assertIs(type(told), list)
        self.assertLessEqual(len(told), 100)
        done = [[0] * len(row) for row in table]
        for phase in told:
            self.assertIs(type(phase), list)
            hours, pairs = phase
            self.assertGreaterEqual(hours, 1)
            self.assertTrue(all(type(pair) is list and len(pair) == 2 for pair in pairs), table)
            self.assertEqual(len({hand for hand, _ in pairs}), len(pairs), table)
            self.assertEqual(len({bench for _, bench in pairs}), len(pairs), table)
            for hand, bench in pairs:
                self.assertGreaterEqual(min(hand, bench), 0)
                done[hand][bench] += hours
        self.assertEqual(done, table)
        self.assertEqual(sum(hours for hours, _ in told), open_end(table), table)
        return told

    def test_where_there_are_no_hours(self):
        for table in [[], [[]], [[], []], [[0]], [[0, 0], [0, 0]], [[0] * 6] * 6]:
            self.assertEqual(phases(table), [])

    def test_one_hand_at_one_bench(self):
        self.assertEqual(phases([[4]]), [[4, [[0, 0]]]])
        self.assertEqual(phases([[0, 0], [0, FIFTY]]), [[FIFTY, [[1, 1]]]])

    def test_one_hand_and_one_bench(self):
        self.look_at([[3, 0, 5, 1]])
        self.look_at([[3], [0], [5], [1]])

    def test_tables_whose_loads_are_all_alike(self):
        self.look_at([[1, 2, 3], [3, 1, 2], [2, 3, 1]])
        self.look_at([[7] * 6] * 6)
        self.look_at([[FIFTY] * 6] * 6)

    def test_a_hand_that_must_not_wait(self):
        # Hand 0 has work for the whole time: a phase without it would make the plan end later.
        self.look_at([[1, 1, 1], [2, 0, 0], [0, 2, 0]])

    def test_a_bench_that_must_not_wait(self):
        self.look_at([[1, 2, 0], [1, 0, 2], [1, 0, 0]])

    def test_six_hands_and_six_benches(self):
        self.look_at([[6 * hand + bench for bench in range(6)] for hand in range(6)])
        self.look_at([[(hand * hand + 7 * bench) % 11 for bench in range(6)] for hand in range(6)])

    def test_more_hands_than_benches_and_fewer(self):
        self.look_at([[5, 1], [2, 2], [0, 9], [4, 0], [1, 1], [3, 3]])
        self.look_at([[5, 2, 0, 4, 1, 3], [1, 2, 9, 0, 1, 3]])

    def test_as_the_definition_tells_it(self):
        for table in drawn_tables():
            self.look_at(table)

    def test_few_phases_of_tables_of_unlike_numbers(self):
        # Powers of three: no two sums are alike, so each phase makes an end of as little as can be.
        chance = random.Random(36)
        for _ in range(60):
            powers = [3 ** k for k in range(36)]
            chance.shuffle(powers)
            self.look_at([powers[6 * hand:6 * hand + 6] for hand in range(6)])

    def test_a_little_more_hands_and_benches(self):
        self.look_at([[(hand * 5 + bench * bench) % 13 for bench in range(8)] for hand in range(8)])


class OneBenchAlike(unittest.TestCase):

    def test_one_hand_or_one_bench_is_one_bench_alike(self):
        chance = random.Random(3)
        for _ in range(200):
            hours = [chance.randint(0, chance.choice([3, FIFTY])) for _ in range(chance.randint(1, 6))]
            self.assertEqual(open_end([hours]), least_end(hours, 1))
            self.assertEqual(open_end([[each] for each in hours]), least_end(hours, 1))


class NothingIsChanged(unittest.TestCase):

    def test_lists_handed_in_and_told(self):
        for call in [loads, open_end, phases]:
            for table in [[], [[]], [[], []], [[0, 0]], [[1, 2], [0, 3], [4, 0]], [[1, 1], [1, 1]]]:
                look_at_lists(self, call, [list(row) for row in table])


if __name__ == "__main__":
    unittest.main()
