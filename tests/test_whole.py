import ast
import inspect
import pathlib
import random
import unittest

import leastfloor
from drawing import FIFTY, WORDS, drawn_floor, keeps_by_definition, shows_by_definition
from leastfloor import (alike, desk, errors, floors, flows, openfloor, orders, pairs, phases, planrows, tails, texts,
                        trees, windows)
from leastfloor.floors import Alike, Open, Pairs, Tails, Tree, Windows, kind_of

# The interface: for each module its functions and their arguments.
FUNCTIONS = {
    planrows: {"apart": "rows", "hours_of": "rows work", "last_moment": "rows", "joined": "rows", "moments": "rows",
               "busy": "rows moment"},
    alike: {"least_end": "hours benches", "wrapped": "hours benches end", "why_end": "hours benches",
            "end_shown": "hours benches reason"},
    phases: {"loads": "table", "open_end": "table", "phases": "table"},
    openfloor: {"open_plan": "table", "why_open": "table"},
    tails: {"tail_plan": "works", "tail_end": "works", "bound": "works some", "why_tail": "works"},
    flows: {"shares": "works benches"},
    windows: {"window_plan": "works benches", "room": "works benches some stretches", "no_window": "works benches"},
    trees: {"levels": "behind", "tree_turns": "behind benches", "turns_shown": "behind benches level",
            "why_tree": "behind benches"},
    orders: {"ahead_of": "many needs", "straight_ahead": "many needs", "marks": "many needs"},
    pairs: {"pair_turns": "many needs", "why_pairs": "many needs"},
    floors: {"kinds": "", "kind_of": "word"},
    texts: {"read_rows": "text", "shown_rows": "rows", "read_floor": "text"},
}

METHODS = {"word": "self", "fits": "self rows", "plan": "self rows", "reason": "self rows", "end": "self rows",
           "keeps": "self rows plan", "shows": "self rows reason end"}


def arguments(function):
    return list(inspect.signature(function).parameters)


class Interface(unittest.TestCase):

    def test_functions(self):
        for module, functions in FUNCTIONS.items():
            for name, told in functions.items():
                self.assertEqual(arguments(getattr(module, name)), told.split(), (module, name))

    def test_methods(self):
        for made in [floors.Floor, floors.Alike, floors.Open, floors.Tails, floors.Windows, floors.Turns, floors.Tree,
                     floors.Pairs]:
            for name, told in METHODS.items():
                self.assertEqual(arguments(getattr(made, name)), told.split(), (made, name))
        self.assertEqual(arguments(desk.Desk.say), ["self", "row"])
        self.assertEqual(arguments(desk.Desk), [])

    def test_errors(self):
        for name in ["NoRoom", "NoOrder", "NoText", "NoKind", "NoFloor", "NoRow", "NoName"]:
            self.assertEqual(getattr(errors, name).__bases__, (errors.FloorError,))
        self.assertEqual(errors.FloorError.__bases__, (ValueError,))


class Files(unittest.TestCase):

    def test_the_package_imports_from_itself_alone(self):
        for path in sorted(pathlib.Path(leastfloor.__file__).parent.glob("*.py")):
            for node in ast.walk(ast.parse(path.read_text())):
                self.assertFalse(isinstance(node, ast.Import), path)
                if isinstance(node, ast.ImportFrom):
                    self.assertTrue(node.level == 0 and node.module.startswith("leastfloor."), path)


class Promise(unittest.TestCase):

    def test_plan_and_reason_of_each_kind(self):
        chance = random.Random(300)
        without = 0
        for word in WORDS:
            kind = kind_of(word)
            for _ in range(150):
                rows = drawn_floor(chance, word, chance.choice([1, 3, 6]))
                plan, end, reason = kind.plan(rows), kind.end(rows), kind.reason(rows)
                if plan is None:
                    without += 1
                    self.assertIs(end, None)
                else:
                    self.assertTrue(kind.keeps(rows, plan) and keeps_by_definition(word, rows, plan), (word, rows))
                if reason is None:
                    self.assertEqual(word, "windows")
                    self.assertIsNot(plan, None)
                else:
                    self.assertTrue(kind.shows(rows, reason, end), (word, rows))
                    self.assertTrue(shows_by_definition(word, rows, reason, end), (word, rows))
        self.assertGreater(without, 20)

    def test_each_plan_ends_at_the_end(self):
        chance = random.Random(301)
        for word in WORDS:
            kind = kind_of(word)
            for _ in range(100):
                rows = drawn_floor(chance, word, chance.choice([1, 3, FIFTY]))
                plan = kind.plan(rows)
                if plan is not None:
                    self.assertEqual(end_by_definition(word, rows, plan), kind.end(rows), (word, rows))


def end_by_definition(word, rows, plan):
    """When the plan ends; for windows the last due, since the plan need only keep the dues."""
    if word in ("tree", "pairs"):
        return len(plan)
    if word == "windows":
        return max([row[1] for row in rows[1:]] + [0])
    if word == "tails":
        return max([row[3] + rows[row[1]][2] for row in plan] + [0])
    return max([row[3] for row in plan] + [0])


class OneKindInAnother(unittest.TestCase):

    def test_benches_alike_need_the_windows_from_nought_to_the_least_end(self):
        chance = random.Random(31)
        for _ in range(200):
            benches = chance.randint(1, 8)
            hours = [chance.randint(0, chance.choice([3, FIFTY])) for _ in range(chance.randint(1, 8))]
            end = Alike().end([[benches], hours])
            rows = [[benches]] + [[0, end, wanted] for wanted in hours]
            self.assertEqual(Windows().end(rows), end)
            self.assertIs(Alike().keeps([[benches], hours], Windows().plan(rows)), True)
            self.assertIs(Windows().keeps(rows, Alike().plan([[benches], hours])), True)
            if end > 0:
                shorter = [[benches]] + [[0, end - 1, wanted] for wanted in hours]
                self.assertIs(Windows().plan(shorter), None)
                self.assertIs(Windows().shows(shorter, Windows().reason(shorter), None), True)

    def test_an_open_floor_of_one_bench_or_one_hand_is_one_bench_alike(self):
        chance = random.Random(32)
        for _ in range(200):
            hours = [chance.randint(0, chance.choice([3, FIFTY])) for _ in range(chance.randint(1, 6))]
            floor = [[1], hours]
            one_bench = [[wanted] for wanted in hours]
            self.assertEqual(Open().end(one_bench), Alike().end(floor))
            self.assertEqual(Open().end([hours]), Alike().end(floor))
            self.assertIs(Alike().keeps(floor, Open().plan(one_bench)), True)
            self.assertIs(Open().keeps(one_bench, Alike().plan(floor)), True)
            turned = [[work, bench, begin, end] for bench, work, begin, end in Alike().plan(floor)]
            self.assertIs(Open().keeps([hours], turned), True)

    def test_works_in_a_tree_on_two_benches_take_as_many_turns_as_in_order(self):
        chance = random.Random(33)
        for _ in range(300):
            behind = drawn_floor(chance, "tree", 0)[1]
            tree = [[2], behind]
            order = [[len(behind)]] + [[work, later] for work, later in enumerate(behind) if later != -1]
            self.assertEqual(Tree().end(tree), Pairs().end(order), behind)
            self.assertIs(Tree().keeps(tree, Pairs().plan(order)), True)
            self.assertIs(Pairs().keeps(order, Tree().plan(tree)), True)

    def test_windows_on_one_bench_and_tails(self):
        chance = random.Random(34)
        found = []
        for _ in range(400):
            works = drawn_floor(chance, "windows", chance.choice([4, 20, FIFTY // 2]))[1:]
            works = [work for work in works if work[2] >= 1]
            last = max([due for _, due, _ in works] + [0])
            tailed = [[come, hours, last - due] for come, due, hours in works]
            plan = Windows().plan([[1]] + works)
            found.append(plan is not None)
            self.assertIs(plan is not None, Tails().end(tailed) <= last, works)
            if plan is not None:
                self.assertIs(Windows().keeps([[1]] + works, Tails().plan(tailed)), True)
                self.assertIs(Tails().keeps(tailed, plan), True)
        self.assertGreater(found.count(True), 50)
        self.assertGreater(found.count(False), 50)


if __name__ == "__main__":
    unittest.main()
