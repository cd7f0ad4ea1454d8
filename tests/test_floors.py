import copy
import random
import unittest

from drawing import (DRAWN, FIFTY, WORDS, bent, drawn_floor, fits_by_definition, keeps_by_definition,
                     shows_by_definition)
from leastfloor.alike import least_end, why_end, wrapped
from leastfloor.errors import FloorError, NoKind
from leastfloor.floors import Alike, Floor, Open, Pairs, Tails, Tree, Turns, Windows, kind_of, kinds
from leastfloor.openfloor import open_plan, why_open
from leastfloor.pairs import pair_turns, why_pairs
from leastfloor.phases import open_end
from leastfloor.tails import tail_end, tail_plan, why_tail
from leastfloor.trees import tree_turns, why_tree
from leastfloor.windows import no_window, window_plan
from looking import look_at_lists

HUGE = 10 ** 59

RING = [[k, (k + 1) % 14] for k in range(14)]

# For each kind the least and the greatest floors, and some between.
FLOORS = {
    "alike": [[[1], []], [[20], []], [[1], [0]], [[2], [5, 4, 0]], [[20], [FIFTY] * 20], [[3], [0] * 20]],
    "open": [[], [[]], [[], []], [[]] * 6, [[0]], [[1, 2], [0, 3]], [[FIFTY] * 6] * 6, [[1] * 6], [[1]] * 6],
    "tails": [[], [[0, 1, 0]], [[3, 2, 7], [0, 5, 0]], [[FIFTY, FIFTY, FIFTY]] * 12],
    "windows": [[[1]], [[8]], [[1], [0, 0, 0]], [[2], [0, 5, 3]], [[2], [4, 4, 9]], [[8]] + [[0, FIFTY, FIFTY]] * 8],
    "tree": [[[1], []], [[20], []], [[1], [-1]], [[2], [1, 2, -1, 2]], [[20], [-1] * 40],
             [[1], [k - 1 for k in range(40)]]],
    "pairs": [[[0]], [[1]], [[14]], [[3], [0, 2]], [[2], [0, 1], [0, 1]], [[14]] + RING[:13], [[14]] + RING[:13] * 80],
}

# For each bound and each part of the form rows that are no floor.
NO_FLOORS = {
    "alike": [[], [[]], [[2]], [[], []], [[], [2]], [[2, 2], [1]], [[0], [1]], [[-1], [1]], [[21], [1]], [[HUGE], [1]],
              [[2], [1], [1]], [[2], [1], []], [[2], [-1]], [[2], [3, -1, 3]], [[2], [0] * 21], [[2], [-HUGE]]],
    "open": [[[1], []], [[], [1]], [[1, 2], [3]], [[1, 2], [3, 4, 5]], [[-1]], [[1, 2], [3, -1]], [[0] * 7], [[0]] * 7,
             [[]] * 7, [[1] * 7] * 7, [[-HUGE, 1]]],
    "tails": [[[]], [[0]], [[0, 1]], [[0, 1, 0, 0]], [[0, 1, 0], []], [[-1, 1, 0]], [[0, 0, 0]], [[0, -1, 0]],
              [[0, 1, -1]], [[0, 1, 0], [0, 0, 0]], [[0, 1, 0]] * 13],
    "windows": [[], [[]], [[0]], [[-1]], [[9]], [[HUGE]], [[1, 1]], [[], [0, 5, 3]], [[0, 5, 3]], [[2], []],
                [[2], [0, 5]], [[2], [0, 5, 3, 0]], [[2], [-1, 5, 3]], [[2], [5, 4, 0]], [[2], [0, 5, -1]],
                [[2], [0, -1, 0]],
                [[2], [-2, -1, 0]], [[2], [0, 5, 3], []], [[8]] + [[0, 1, 0]] * 9],
    "tree": [[], [[]], [[2]], [[], []], [[0], []], [[-1], []], [[21], []], [[HUGE], []], [[2, 2], []], [[2], [], []],
             [[2], [-1], [-1]], [[2], [-2]], [[2], [0]], [[2], [1]], [[2], [1, 0]], [[2], [-1, 2]], [[2], [HUGE]],
             [[2], [-HUGE]], [[1], [-1] * 41], [[1], [k + 1 for k in range(39)] + [0]]],
    "pairs": [[], [[]], [[-1]], [[15]], [[HUGE]], [[3, 0]], [[0, 1], [0, 1]], [[3], []], [[3], [0]], [[3], [0, 1, 2]],
              [[3], [0, 1], []], [[3], [0, 3]], [[3], [3, 0]], [[3], [-1, 0]], [[3], [0, -1]], [[3], [1, 1]],
              [[3], [0, 1], [1, 0]], [[0], [0, 0]], [[3], [0, HUGE]], [[HUGE], [0, 1]], [[14]] + RING],
}


def drawn_floors(seed, many, mosts):
    """Drawn floors of each kind, with its object."""
    chance = random.Random(seed)
    for kind in kinds():
        for most in mosts:
            for _ in range(many):
                yield kind, drawn_floor(chance, kind.word(), most), chance


class Kinds(unittest.TestCase):

    def test_the_classes(self):
        for one in [Alike, Open, Tails, Windows, Turns]:
            self.assertEqual(one.__bases__, (Floor,))
        for one in [Tree, Pairs]:
            self.assertEqual(one.__bases__, (Turns,))
        for one in [Floor, Alike, Open, Tails, Windows, Turns, Tree, Pairs]:
            made = one()
            for method in ["word", "fits", "plan", "reason", "end", "keeps", "shows"]:
                self.assertTrue(callable(getattr(made, method)))

    def test_six_objects_in_their_order(self):
        self.assertEqual([type(kind) for kind in kinds()], [Alike, Open, Tails, Windows, Tree, Pairs])
        self.assertEqual([kind.word() for kind in kinds()], WORDS)

    def test_anew_at_each_asking(self):
        first = kinds()
        first.pop()
        second = kinds()
        self.assertEqual(len(second), 6)
        self.assertFalse({id(kind) for kind in first} & {id(kind) for kind in second})

    def test_the_kind_of_a_word(self):
        for made in [Alike(), Open(), Tails(), Windows(), Tree(), Pairs()]:
            self.assertIs(type(kind_of(made.word())), type(made))

    def test_a_word_that_is_no_kinds(self):
        for word in ["", "Alike", "alike ", "turns", "floor", "alik", "opens", "none", "open -", "abcdefghi"]:
            with self.assertRaises(NoKind):
                kind_of(word)


class Fits(unittest.TestCase):

    def test_floors(self):
        for word in WORDS:
            for rows in FLOORS[word]:
                self.assertIs(kind_of(word).fits(rows), True, (word, rows))
                self.assertTrue(fits_by_definition(word, rows))

    def test_no_floors(self):
        for word in WORDS:
            for rows in NO_FLOORS[word]:
                self.assertIs(kind_of(word).fits(rows), False, (word, rows))

    def test_each_floor_as_each_kind(self):
        for rows in sum(FLOORS.values(), []) + sum(NO_FLOORS.values(), []):
            for kind in kinds():
                self.assertIs(kind.fits(rows), fits_by_definition(kind.word(), rows), (kind.word(), rows))

    def test_drawn_floors_bent_and_not(self):
        found = []
        for kind, rows, chance in drawn_floors(24, 300, [3]):
            self.assertIs(kind.fits(rows), True, (kind.word(), rows))
            wrong = bent(chance, rows)
            found.append(kind.fits(wrong))
            self.assertIs(found[-1], fits_by_definition(kind.word(), wrong), (kind.word(), wrong))
        self.assertGreater(found.count(True), 200)
        self.assertGreater(found.count(False), 200)

    def test_a_thousand_rows(self):
        for kind in kinds():
            for row in [[], [0], [0, 1], [0, 1, 2]]:
                self.assertIs(kind.fits([list(row) for _ in range(1000)]), False)
        self.assertIs(Pairs().fits([[2]] + [[0, 1]] * 999), True)


class PlanEndReason(unittest.TestCase):

    def told_by_the_functions(self, word, rows):
        """Point 25: the plan, the end and the reason."""
        if word == "alike":
            benches, hours = rows[0][0], rows[1]
            end = least_end(hours, benches)
            return wrapped(hours, benches, end), end, [why_end(hours, benches)]
        if word == "open":
            return open_plan(rows), open_end(rows), [why_open(rows)]
        if word == "tails":
            return tail_plan(rows), tail_end(rows), [why_tail(rows)]
        if word == "windows":
            plan = window_plan(rows[1:], rows[0][0])
            if plan is None:
                some, stretches = no_window(rows[1:], rows[0][0])
                return None, None, [some] + stretches
            return plan, max([due for _, due, _ in rows[1:]] + [0]), None
        if word == "tree":
            turns = tree_turns(rows[1], rows[0][0])
            return turns, len(turns), [[why_tree(rows[1], rows[0][0])]]
        turns = pair_turns(rows[0][0], rows[1:])
        return turns, len(turns), why_pairs(rows[0][0], rows[1:])

    def look_at(self, kind, rows):
        told = (kind.plan(rows), kind.end(rows), kind.reason(rows))
        self.assertEqual(told, self.told_by_the_functions(kind.word(), rows), (kind.word(), rows))

    def test_the_least_and_the_greatest_floors(self):
        for word in WORDS:
            for rows in FLOORS[word]:
                self.look_at(kind_of(word), rows)

    def test_drawn_floors(self):
        for kind, rows, _ in drawn_floors(25, 60, [1, 4, FIFTY]):
            self.look_at(kind, rows)

    def test_floors_without_works(self):
        for kind, rows, told in [(Alike(), [[3], []], ([], 0, [[]])), (Open(), [], ([], 0, [[]])),
                                 (Tails(), [], ([], 0, [[]])), (Windows(), [[3]], ([], 0, None)),
                                 (Tree(), [[3], []], ([], 0, [[0]])), (Pairs(), [[0]], ([], 0, []))]:
            self.assertEqual((kind.plan(rows), kind.end(rows), kind.reason(rows)), told)

    def test_told_plans_and_reasons(self):
        self.assertEqual(Alike().plan([[2], [3, 3, 3]]), [[0, 0, 0, 3], [0, 1, 3, 5], [1, 1, 0, 1], [1, 2, 1, 4]])
        self.assertEqual(Alike().reason([[2], [3, 3, 3]]), [[]])
        self.assertEqual(Alike().reason([[2], [1, 9]]), [[1]])
        self.assertEqual(Open().reason([[1, 3], [2, 4]]), [[1, 1]])
        self.assertEqual(Tails().plan([[0, 5, 1], [2, 2, 2]]), [[0, 0, 0, 2], [0, 1, 2, 4], [0, 0, 4, 7]])
        self.assertEqual(Windows().end([[1], [2, 7, 5], [9, 12, 0]]), 12)
        self.assertEqual(Windows().plan([[1], [4, 4, 1]]), None)
        self.assertEqual(Windows().reason([[1], [0, 9, 0], [4, 4, 1]]), [[1]])
        self.assertEqual(Tree().plan([[2], [3, 3, 3, -1]]), [[0, 1], [2], [3]])
        self.assertEqual(Tree().reason([[1], [1, -1]]), [[1]])
        self.assertEqual(Pairs().plan([[4]]), [[3, 2], [1, 0]])
        self.assertEqual(Pairs().reason([[3], [0, 1], [1, 2]]), [[0], [1], [2]])


class Keeps(unittest.TestCase):

    def check(self, kind, rows, right, wrong):
        """Each of the right plans keeps the rules of the floor, none of the wrong ones does."""
        for plan in right:
            self.assertIs(kind.keeps(rows, plan), True, plan)
            self.assertTrue(keeps_by_definition(kind.word(), rows, plan))
        for plan in wrong + [[[]], [[0]], [[0, 0]], [[0, 0, 0]], [[0, 0, 0, 1, 0]], [[HUGE, 0, 0, 1]],
                             [[0, -HUGE, 0, 1]]]:
            self.assertIs(kind.keeps(rows, plan), False, plan)

    def test_alike(self):
        right = [[0, 0, 0, 2], [1, 1, 0, 3], [0, 1, 3, 4]]
        self.check(Alike(), [[2], [2, 4, 0]], [
            right, right[::-1], [[1, 0, 50, 51], [0, 0, 51, 52], [0, 1, 0, 4]],
            [[0, 1, 0, 3], [0, 1, 3, 4], [1, 0, 0, 2]],
        ], [
            [], right[:2], right + [[0, 2, 9, 10]], right + [[0, 0, 9, 10]], [[0, 0, 0, 2], [0, 1, 1, 5]],
            [[0, 0, 0, 2], [1, 1, 0, 3], [0, 1, 2, 3]], [[0, 0, 0, 2], [2, 1, 0, 4]], [[-1, 0, 0, 2], [1, 1, 0, 4]],
            [[0, 0, 0, 2], [1, 3, 0, 4]], [[0, 0, -1, 1], [1, 1, 0, 4]], [[0, 0, 2, 0], [1, 1, 0, 4]],
            right + [[0, 2, 9, 9]], right + [[0, 3, 9, 10]], right + [[]], [right[0] + [0]] + right[1:], right + right,
        ])

    def test_open(self):
        right = [[0, 0, 0, 1], [1, 0, 1, 3], [1, 1, 3, 6]]
        self.check(Open(), [[1, 2], [0, 3]], [
            right, right[::-1], [[0, 0, 2, 3], [1, 0, 0, 2], [1, 1, 2, 4], [1, 1, 40, 41]],
        ], [
            [], right[:2], [[1, 0, 0, 1], [0, 0, 1, 3], [1, 1, 3, 6]], [[0, 0, 0, 2], [1, 0, 2, 3], [1, 1, 3, 6]],
            [[0, 0, 0, 1], [1, 0, 0, 2], [1, 1, 2, 5]], [[0, 0, 0, 1], [1, 0, 1, 3], [1, 1, 2, 5]],
            [[0, 0, 0, 1], [1, 0, 1, 3], [0, 1, 3, 6]], right + [[2, 0, 9, 10]], right + [[0, 2, 9, 10]],
            right + [[0, 1, 9, 10]], [[0, 0, 0, 1], [1, 0, 1, 3], [1, 1, 3, 5]], right + [[1, 1, 6, 6]],
        ])
        self.check(Open(), [], [[]], [[[0, 0, 0, 1]]])
        self.check(Open(), [[], []], [[]], [[[0, 0, 0, 1]]])

    def test_tails(self):
        right = [[0, 0, 2, 5], [0, 1, 5, 7]]
        self.check(Tails(), [[2, 3, 9], [0, 2, 1]], [
            right, right[::-1], [[0, 1, 0, 2], [0, 0, 2, 5]],
            [[0, 1, 1, 2], [0, 0, 2, 3], [0, 1, 3, 4], [0, 0, 70, 72]],
        ], [
            [], right[:1], [[0, 0, 1, 4], [0, 1, 4, 6]], [[1, 0, 2, 5], [0, 1, 0, 2]], [[1, 0, 2, 5], [1, 1, 5, 7]],
            [[0, 0, 2, 5], [0, 1, 4, 6]], [[0, 0, 2, 4], [0, 1, 5, 7]], [[0, 0, 2, 5], [0, 1, 5, 8]],
            right + [[0, 2, 8, 9]], [[0, 0, 1, 2], [0, 0, 3, 5], [0, 1, 5, 7]],
        ])

    def test_windows(self):
        right = [[0, 0, 2, 5], [1, 1, 0, 2]]
        self.check(Windows(), [[2], [2, 6, 3], [0, 2, 2], [4, 4, 0]], [
            right, right[::-1], [[0, 0, 3, 6], [0, 1, 0, 2]], [[0, 0, 2, 4], [1, 0, 5, 6], [0, 1, 0, 1], [1, 1, 1, 2]],
        ], [
            [], right[:1], [[0, 0, 1, 4], [1, 1, 0, 2]], [[0, 0, 4, 7], [1, 1, 0, 2]], [[0, 0, 2, 5], [1, 1, 1, 3]],
            [[2, 0, 2, 5], [1, 1, 0, 2]], [[0, 0, 2, 4], [1, 1, 0, 2]], [[0, 0, 2, 6], [1, 1, 0, 2]],
            right + [[0, 2, 4, 5]], right + [[0, 3, 7, 8]], [[0, 0, 2, 4], [1, 0, 3, 4], [1, 1, 0, 2]],
            [[0, 0, 2, 4], [0, 1, 0, 2]],
        ])
        self.check(Windows(), [[1], [4, 4, 1]], [], [[], [[0, 0, 4, 5]], [[0, 0, 3, 4]]])

    def test_tree(self):
        self.check(Tree(), [[2], [2, 2, 3, -1, -1]], [
            [[0, 1], [2, 4], [3]], [[1, 0], [4, 2], [3]], [[0], [1], [2], [3], [4]], [[4, 1], [0], [2], [3]],
        ], [
            [], [[0, 1], [2], [3]], [[0, 1], [2, 4], [3, 4]], [[0, 1], [2, 4], [3], []], [[0, 1], [], [2, 4], [3]],
            [[0, 1, 4], [2], [3]], [[0], [1, 2], [4, 3]], [[0, 2], [1, 4], [3]], [[0, 1], [2, 3], [4]],
            [[0, 1], [3, 4], [2]], [[0, 1], [2, 5], [3]], [[0, 1], [2, -1], [3, 4]], [[0, 1], [2, 4], [3, 5]],
            [[0, 0], [1], [2, 4], [3]], [[0, 1], [2, 4], [3], [3]], [[HUGE, 1], [2, 4], [3]],
        ])
        self.check(Tree(), [[1], []], [[]], [])
        self.check(Tree(), [[3], [-1, -1, -1]], [[[0, 1, 2]], [[2], [1], [0]]], [[[0, 1, 2, 3]]])

    def test_pairs(self):
        self.check(Pairs(), [[5], [0, 2], [1, 2], [2, 3], [0, 2]], [
            [[0, 1], [2, 4], [3]], [[1, 0], [4, 2], [3]], [[0], [1], [2], [3], [4]],
        ], [
            [], [[0, 1], [2], [3]], [[0, 1], [2, 4], [3, 4]], [[0, 1], [2, 4], [3], []], [[0, 1, 4], [2], [3]],
            [[0, 2], [1, 4], [3]], [[0, 1], [2, 3], [4]], [[0, 1], [3, 4], [2]], [[0, 1], [2, 5], [3]],
            [[0, 1], [2, 4], [3, -1]],
        ])
        self.check(Pairs(), [[3], [0, 1], [1, 2]], [[[0], [1], [2]]], [[[0, 2], [1]], [[1], [0], [2]], [[2], [0], [1]]])
        self.check(Pairs(), [[0]], [[]], [])

    def test_the_told_plan_keeps_the_rules(self):
        for kind, rows, _ in drawn_floors(3, 60, [1, 4, FIFTY]):
            plan = kind.plan(rows)
            if plan is not None:
                self.assertIs(kind.keeps(rows, plan), True, (kind.word(), rows))
        for word in WORDS:
            for rows in FLOORS[word]:
                plan = kind_of(word).plan(rows)
                if plan is not None:
                    self.assertIs(kind_of(word).keeps(rows, plan), True, (word, rows))

    def test_drawn_plans_bent_and_not(self):
        found = []
        for kind, rows, chance in drawn_floors(26, 120, [1, 2, 4]):
            for _ in range(6):
                plan = bent(chance, kind.plan(rows) or [])
                found.append(kind.keeps(rows, plan))
                self.assertIs(found[-1], keeps_by_definition(kind.word(), rows, plan), (kind.word(), rows, plan))
        self.assertGreater(found.count(True), 1000)
        self.assertGreater(found.count(False), 1000)

    def test_a_plan_of_another_floor(self):
        for kind, rows, chance in drawn_floors(27, 60, [2, 4]):
            plan = kind.plan(drawn_floor(chance, kind.word(), 4)) or []
            told = keeps_by_definition(kind.word(), rows, plan)
            self.assertIs(kind.keeps(rows, plan), told, (kind.word(), rows, plan))


class Shows(unittest.TestCase):

    def check(self, kind, rows, shown, wrong):
        """Each reason shows the end that is told for it and all ends before; the wrong ones show none."""
        for reason, end in shown:
            for less in [end, end - 1, 0, -1, -HUGE]:
                self.assertIs(kind.shows(rows, reason, less), end >= less, (reason, less))
            for more in [end + 1, HUGE, None]:
                self.assertIs(kind.shows(rows, reason, more), False, (reason, more))
        for reason in wrong:
            for end in [1, 0, -1, -HUGE, HUGE, None]:
                self.assertIs(kind.shows(rows, reason, end), False, (reason, end))

    def test_alike(self):
        self.check(Alike(), [[2], [4, 0, 5]], [([[0]], 4), ([[1]], 0), ([[2]], 5), ([[]], 5)],
                   [[], [[3]], [[-1]], [[0, 1]], [[0], []], [[], []], [[], [0]], [[HUGE]], [[-HUGE]], [[0], [0]]])
        self.check(Alike(), [[2], [4, 4, 4]], [([[]], 6), ([[1]], 4)], [])
        self.check(Alike(), [[3], []], [([[]], 0)], [[], [[0]], [[-1]], [[], []]])

    def test_open(self):
        self.check(Open(), [[1, 3], [2, 4], [0, 0]],
                   [([[0, 0]], 4), ([[0, 1]], 6), ([[0, 2]], 0), ([[1, 0]], 3), ([[1, 1]], 7), ([[]], 0)],
                   [[], [[0, 3]], [[1, 2]], [[0, -1]], [[1, -1]], [[2, 0]], [[-1, 0]], [[0]], [[1]], [[0, 0, 0]],
                    [[0, 0], []], [[], []], [[], [0, 0]], [[0, 0], [1, 0]], [[HUGE, 0]], [[0, HUGE]], [[0], [0]]])
        self.check(Open(), [], [([[]], 0)], [[], [[0, 0]], [[1, 0]]])
        self.check(Open(), [[], []], [([[]], 0), ([[0, 0]], 0), ([[0, 1]], 0)], [[[1, 0]], [[0, 2]]])

    def test_tails(self):
        self.check(Tails(), [[4, 2, 7], [1, 3, 9], [6, 5, 0]],
                   [([[0]], 13), ([[1]], 13), ([[2]], 11), ([[0, 1]], 13), ([[0, 2]], 11), ([[0, 1, 2]], 11),
                    ([[]], 0)],
                   [[], [[3]], [[-1]], [[1, 0]], [[0, 0]], [[0, 1, 1]], [[0, 3]], [[-1, 0]], [[0], []], [[0], [1]],
                    [[], []], [[HUGE]], [[2, 1, 0]]])
        self.check(Tails(), [], [([[]], 0)], [[], [[0]], [[-1]], [[], []]])

    def test_tree(self):
        self.check(Tree(), [[2], [-1, 0, 1, 2, 2, 2, 2, 2]],
                   [([[0]], 0), ([[1]], 4), ([[2]], 5), ([[3]], 5), ([[4]], 6), ([[5]], 0), ([[HUGE]], 0)],
                   [[], [[]], [[-1]], [[-HUGE]], [[1, 1]], [[1], []], [[], [1]], [[1], [1]]])
        self.check(Tree(), [[2], []], [([[0]], 0), ([[1]], 0)], [[], [[]], [[-1]]])

    def test_pairs(self):
        self.check(Pairs(), [[6], [0, 1], [0, 2], [0, 3], [1, 4], [2, 4], [3, 4], [0, 5]],
                   [([[0], [1, 2, 3], [4]], 4), ([[0], [3, 1, 2], [4]], 4), ([[0], [5, 1, 3]], 3), ([[0], [4]], 2),
                    ([[5, 4, 3, 2, 1, 0]], 3), ([[0]], 1), ([[1, 2]], 1), ([], 0)],
                   [[[]], [[0], []], [[], [0]], [[0], [], [4]], [[0], [1, 2, 3], [4], [5]], [[0, 0]], [[0], [1, 1]],
                    [[0], [1], [0]], [[1], [0]], [[1, 5], [4]], [[0], [1, 4], [2]], [[6]], [[-1]], [[0], [HUGE]],
                    [[1, 2, 3], [4, 0]], [[0], [1, 6]], [[1], [2]]])
        self.check(Pairs(), [[0]], [([], 0)], [[[]], [[0]]])

    def test_windows(self):
        rows = [[2], [0, 4, 3], [0, 4, 3], [0, 4, 3], [2, 9, 1]]
        for reason in [[[0, 1, 2], [0, 4]], [[0, 1, 2], [0, 1], [1, 4]]]:
            self.assertIs(Windows().shows(rows, reason, None), True, reason)
            for end in [0, -1, 9, -HUGE, HUGE]:
                self.assertIs(Windows().shows(rows, reason, end), False)
        for reason in [[], [[]], [[], [0, 4]], [[0, 1], [0, 4]], [[0, 1, 2]], [[2, 1, 0], [0, 4]],
                       [[0, 1, 2, 2], [0, 4]], [[0, 1, 2], [0, 5]], [[0, 1, 2], [-1, 4]],
                       [[0, 1, 2], [1, 4], [0, 1]], [[0, 1, 2], [0, 4], [4, 4]], [[0, 1, 2], [0, 2], [1, 4]],
                       [[0, 1, 2], [4, 0]], [[0, 1, 2], []], [[0, 1, 2], [0, 4, 4]],
                       [[0, 1, 2], [0]], [[0, 1, 2, 4], [0, 4]], [[-1, 0, 1, 2], [0, 4]], [[0, 1, 2], [0, 4], []],
                       [[0, 4], [0, 1, 2]], [[0, 1, HUGE], [0, 4]], [[0, 1, 2], [-HUGE, HUGE]]]:
            self.assertIs(Windows().shows(rows, reason, None), False, reason)

    def test_stretches_of_windows_may_be_of_any_numbers(self):
        # A stretch below 0 costs the hours of all benches, but the works may want more than that.
        rows = [[1], [0, 1, 1], [0, 1, 9]]
        self.assertIs(Windows().shows(rows, [[0, 1], [-3, 1]], None), True)
        self.assertIs(Windows().shows(rows, [[0, 1], [-8, 1]], None), True)
        self.assertIs(Windows().shows(rows, [[0, 1], [-9, 1]], None), False)
        self.assertIs(Windows().shows(rows, [[0, 1], [-2, -1], [0, 1], [20, 22]], None), True)
        self.assertIs(Windows().shows(rows, [[1], [-HUGE, -HUGE + 2]], None), True)

    def test_windows_with_a_plan_have_no_reason(self):
        for reason in [[], [[]], [[0]], [[0, 1]], [[0, 1], [0, 9]], [[0], [2, 3]]]:
            for end in [None, 0, 9]:
                self.assertIs(Windows().shows([[1], [0, 9, 4], [0, 9, 5]], reason, end), False)
                self.assertIs(Windows().shows([[1]], reason, end), False)

    def test_the_told_reason_shows_the_end(self):
        for kind, rows, _ in drawn_floors(3, 60, [1, 4, FIFTY]):
            reason = kind.reason(rows)
            end = kind.end(rows)
            if reason is not None:
                self.assertIs(kind.shows(rows, reason, end), True, (kind.word(), rows))
                self.assertIs(kind.shows(rows, reason, 0 if end is None else end + 1), False)
        for word in WORDS:
            for rows in FLOORS[word]:
                reason = kind_of(word).reason(rows)
                if reason is not None:
                    self.assertIs(kind_of(word).shows(rows, reason, kind_of(word).end(rows)), True, (word, rows))

    def test_drawn_reasons_bent_and_not(self):
        found = []
        for kind, rows, chance in drawn_floors(260, 120, [1, 2, 4]):
            told = kind.end(rows)
            for _ in range(6):
                reason = bent(chance, kind.reason(rows) or [])
                end = chance.choice([told, told, 0, -1, None, chance.randint(0, 9)])
                found.append(kind.shows(rows, reason, end))
                self.assertIs(found[-1], shows_by_definition(kind.word(), rows, reason, end),
                              (kind.word(), rows, reason, end))
        self.assertGreater(found.count(True), 300)
        self.assertGreater(found.count(False), 1000)

    def test_no_reason_shows_more_than_the_least_end(self):
        for kind, rows, chance in drawn_floors(261, 120, [1, 2, 4]):
            told = kind.end(rows)
            for _ in range(6):
                reason = bent(chance, kind.reason(rows) or [])
                self.assertIs(kind.shows(rows, reason, None if told is not None else 0), False)
                if told is not None:
                    self.assertIs(kind.shows(rows, reason, told + 1), False)


class NothingIsChanged(unittest.TestCase):

    def test_lists_handed_in_and_told(self):
        for kind, rows, chance in drawn_floors(2, 30, [4]):
            for call in [kind.fits, kind.plan, kind.end, kind.reason]:
                look_at_lists(self, call, copy.deepcopy(rows))
            plan = kind.plan(rows) or []
            reason = kind.reason(rows) or []
            for told in [plan, bent(chance, plan)]:
                look_at_lists_of_truth(self, kind.keeps, rows, told)
            for told in [reason, bent(chance, reason)]:
                look_at_lists_of_truth(self, kind.shows, rows, told, kind.end(rows))

    def test_wrong_rows_are_as_before(self):
        for word in WORDS:
            for rows in NO_FLOORS[word]:
                before = copy.deepcopy(rows)
                kind_of(word).fits(rows)
                self.assertEqual(rows, before)


def look_at_lists_of_truth(case, call, *handed):
    before = copy.deepcopy(handed)
    call(*handed)
    case.assertEqual(handed, before)


class Refusals(unittest.TestCase):

    def test_nothing_is_refused_where_rows_are_looked_at(self):
        chance = random.Random(7)
        for kind in kinds():
            for rows in FLOORS[kind.word()]:
                for _ in range(40):
                    other = bent(chance, drawn_floor(chance, chance.choice(list(DRAWN)), 3))
                    try:
                        kind.fits(other)
                        kind.keeps(rows, other)
                        for end in [None, 0, 3]:
                            kind.shows(rows, other, end)
                    except FloorError as refusal:
                        self.fail((kind.word(), rows, other, refusal))


if __name__ == "__main__":
    unittest.main()
