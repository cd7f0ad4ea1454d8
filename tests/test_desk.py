import random
import unittest

from drawing import FIFTY, WORDS, bent, drawn_floor
from leastfloor.desk import Desk
from leastfloor.errors import FloorError, NoFloor, NoKind, NoName, NoRow, NoText
from leastfloor.floors import kind_of
from leastfloor.planrows import busy
from leastfloor.texts import read_rows, shown_rows

FLOORS = {"a": "alike 2 / 3 3 3", "o": "open 1 3 / 2 4", "t": "tails 0 5 1 / 2 2 2", "w": "windows 1 / 2 7 5",
          "x": "windows 1 / 4 4 1", "tree": "tree 2 / 3 3 3 -1", "pairs": "pairs 4 / 0 2 / 0 3 / 1 3"}

PLANS = {"a": "0 0 0 3 / 0 1 3 5 / 1 1 0 1 / 1 2 1 4", "t": "0 0 0 2 / 0 1 2 4 / 0 0 4 7", "w": "0 0 2 7", "x": "none",
         "tree": "0 1 / 2 / 3", "pairs": "0 1 / 3 2"}

ENDS = {"a": "5", "o": "7", "t": "8", "w": "7", "x": "none", "tree": "3", "pairs": "2"}

REASONS = {"a": ".", "o": "1 1", "t": "0 1", "w": "none", "x": "0", "tree": "2"}


def full_desk():
    desk = Desk()
    for name, text in FLOORS.items():
        desk.say(f"floor {name} {text}")
    return desk


class Looking(unittest.TestCase):

    def refused(self, desk, row, refusal):
        """The row is refused, with just this error, and nothing is changed by it."""
        before = all_shown(desk)
        with self.assertRaises(refusal, msg=row) as caught:
            desk.say(row)
        self.assertIs(type(caught.exception), refusal, row)
        self.assertEqual(all_shown(desk), before)


def all_shown(desk):
    return [desk.say(f"show {name}") for name in desk.say("names").split(" ") if name]


class Floors(Looking):

    def test_a_new_desk(self):
        self.assertEqual(Desk().say("names"), "")

    def test_each_desk_by_itself(self):
        one = Desk()
        other = Desk()
        self.assertEqual(one.say("floor a tails -"), "ok")
        self.assertEqual(other.say("names"), "")

    def test_floors_stand_by_their_names(self):
        desk = full_desk()
        self.assertEqual(desk.say("names"), "a o pairs t tree w x")
        for name, text in FLOORS.items():
            self.assertEqual(desk.say(f"show {name}"), text)

    def test_names_of_one_and_of_eight_letters(self):
        desk = Desk()
        for name in ["z", "abcdefgh", "floor", "names", "none"]:
            self.assertEqual(desk.say(f"floor {name} tails -"), "ok")
        self.assertEqual(desk.say("names"), "abcdefgh floor names none z")
        self.assertEqual([desk.say("show names"), desk.say("drop names")], ["tails -", "ok"])
        self.assertEqual(desk.say("names"), "abcdefgh floor none z")

    def test_a_name_given_anew(self):
        desk = full_desk()
        self.assertEqual(desk.say("floor a tree 1 / ."), "ok")
        self.assertEqual(desk.say("show a"), "tree 1 / .")
        self.assertEqual(desk.say("names"), "a o pairs t tree w x")

    def test_drop(self):
        desk = full_desk()
        self.assertEqual(desk.say("drop o"), "ok")
        self.assertEqual(desk.say("names"), "a pairs t tree w x")
        self.refused(desk, "drop o", NoName)
        self.refused(desk, "show o", NoName)
        self.assertEqual(desk.say("floor o open -"), "ok")
        self.assertEqual(desk.say("show o"), "open -")

    def test_wrong_floors(self):
        desk = full_desk()
        for text, refusal in [("", NoText), ("alike", NoText), ("alike ", NoText), (" tails -", NoText),
                              ("tails - ", NoText), ("tails  -", NoText), ("Tails -", NoText), ("tails 00", NoText),
                              ("floors -", NoKind), ("floors 00", NoText), ("tails 1", NoFloor),
                              ("alike 0 / .", NoFloor),
                              ("pairs 2 / 0 1 / 1 0", NoFloor), ("tree 2 / 0", NoFloor)]:
            self.refused(desk, f"floor a {text}", refusal)
            self.refused(desk, f"floor new {text}", refusal)


class Late(Looking):

    def test_rows_put_behind(self):
        desk = full_desk()
        for name, text, told in [("o", "0 9", "open 1 3 / 2 4 / 0 9"),
                                 ("t", "4 4 4 / 5 5 5", "tails 0 5 1 / 2 2 2 / 4 4 4 / 5 5 5"),
                                 ("w", "0 1 1", "windows 1 / 2 7 5 / 0 1 1"),
                                 ("pairs", "0 2", "pairs 4 / 0 2 / 0 3 / 1 3 / 0 2"),
                                 ("a", "-", FLOORS["a"]), ("tree", "-", FLOORS["tree"])]:
            self.assertEqual(desk.say(f"late {name} {text}"), "ok")
            self.assertEqual(desk.say(f"show {name}"), told)
        self.assertEqual(desk.say("end o"), "16")

    def test_rows_behind_no_rows(self):
        desk = Desk()
        desk.say("floor t tails -")
        desk.say("late t 0 1 0")
        desk.say("late t -")
        desk.say("late t 0 1 0 / 2 1 0")
        self.assertEqual(desk.say("show t"), "tails 0 1 0 / 0 1 0 / 2 1 0")

    def test_rows_that_make_no_floor(self):
        desk = full_desk()
        for name, text in [("a", "1"), ("a", "."), ("o", "1"), ("o", "1 -1"), ("t", "0 0 0"), ("t", "."),
                           ("w", "2 1 0"), ("w", " / ".join(["0 1 0"] * 8)), ("tree", "-1"), ("pairs", "3 0"),
                           ("pairs", "0 4"), ("pairs", "0"), ("o", " / ".join(["1 1"] * 5))]:
            self.refused(desk, f"late {name} {text}", NoFloor)

    def test_which_refusal_comes_first(self):
        desk = full_desk()
        self.refused(desk, "late t 0 0 00", NoText)
        self.refused(desk, "late t ", NoText)
        self.refused(desk, "late t", NoRow)
        self.refused(desk, "late new 0 0 00", NoName)
        self.refused(desk, "late T 0 0 0", NoName)


class Asked(Looking):

    def test_plan(self):
        desk = full_desk()
        for name, told in PLANS.items():
            self.assertEqual(desk.say(f"plan {name}"), told)
        self.assertEqual(desk.say("keeps o " + desk.say("plan o")), "yes")

    def test_end(self):
        desk = full_desk()
        for name, told in ENDS.items():
            self.assertEqual(desk.say(f"end {name}"), told)

    def test_why(self):
        desk = full_desk()
        for name, told in REASONS.items():
            self.assertEqual(desk.say(f"why {name}"), told)
        self.assertEqual(desk.say("shows pairs " + desk.say("why pairs")), "yes")

    def test_floors_without_works(self):
        desk = Desk()
        for text, told in [("alike 1 / .", ("-", "0", ".")), ("open -", ("-", "0", ".")), ("tails -", ("-", "0", ".")),
                           ("windows 1", ("-", "0", "none")), ("tree 1 / .", ("-", "0", "0")),
                           ("pairs 0", ("-", "0", "-"))]:
            desk.say(f"floor f {text}")
            self.assertEqual((desk.say("plan f"), desk.say("end f"), desk.say("why f")), told)
            self.assertEqual(desk.say("keeps f -"), "yes")

    def test_keeps(self):
        desk = full_desk()
        for row, told in [("a 1 0 0 3 / 0 1 3 6 / 0 2 9 12", "yes"), ("a 1 0 0 3", "no"), ("a -", "no"), ("a .", "no"),
                          ("w 0 0 2 7", "yes"), ("w 0 0 1 6", "no"), ("x -", "no"), ("x 0 0 4 5", "no"),
                          ("tree 0 / 1 / 2 / 3", "yes"), ("tree 1 0 / 3 / 2", "no"), ("pairs 0 1 / 2 3", "yes"),
                          ("pairs 1 / 0 3 / 2", "no"), ("t 0 1 2 4 / 0 0 4 9", "yes"), ("t 0 1 0 2 / 0 0 4 9", "no")]:
            self.assertEqual(desk.say(f"keeps {row}"), told, row)

    def test_shows(self):
        desk = full_desk()
        for row, told in [("a .", "yes"), ("a 0", "no"), ("a -", "no"), ("o 1 1", "yes"), ("o 0 1", "no"),
                          ("o .", "no"), ("t 0 1", "yes"), ("t 0", "no"), ("w 0", "no"), ("w .", "no"),
                          ("w 0 / 2 7", "no"), ("x 0", "yes"), ("x 0 / 9 10", "no"), ("x -", "no"), ("tree 2", "yes"),
                          ("tree 1", "no"), ("tree 0", "no"),
                          ("pairs 0 1 2 3", "yes"), ("pairs 0 / 2 3", "yes"), ("pairs 0 / 3", "yes"), ("pairs 0", "no"),
                          ("pairs -", "no")]:
            self.assertEqual(desk.say(f"shows {row}"), told, row)

    def test_wrong_texts(self):
        desk = full_desk()
        for name in FLOORS:
            for text in ["", " ", "00", "1 ", " 1", "1  2", "/", "1 /", "- -", "yes", "1" * 61]:
                self.refused(desk, f"keeps {name} {text}", NoText)
                self.refused(desk, f"shows {name} {text}", NoText)

    def test_large_numbers(self):
        desk = Desk()
        desk.say(f"floor a alike 2 / {FIFTY} {FIFTY} {FIFTY}")
        self.assertEqual(desk.say("end a"), str((3 * FIFTY + 1) // 2))
        self.assertEqual(desk.say("keeps a " + desk.say("plan a")), "yes")
        self.assertEqual(desk.say(f"busy a {FIFTY}"), "0:1 1:2")


class Busy(Looking):

    def test_benches_and_works(self):
        desk = full_desk()
        for row, told in [("a 0", "0:0 1:1"), ("a 2", "0:0 1:2"), ("a 3", "0:1 1:2"), ("a 4", "0:1"), ("a 5", ""),
                          ("a 1000", ""), ("t 0", "0:0"), ("t 2", "0:1"), ("t 4", "0:0"), ("t 7", ""), ("w 1", ""),
                          ("w 2", "0:0"), ("w 6", "0:0"), ("w 7", "")]:
            self.assertEqual(desk.say(f"busy {row}"), told, row)

    def test_open(self):
        desk = full_desk()
        desk.say("floor one open 0 0 4")
        self.assertEqual([desk.say("busy one 0"), desk.say("busy one 3"), desk.say("busy one 4")], ["2:0", "2:0", ""])

    def test_turns_and_places(self):
        desk = full_desk()
        for row, told in [("tree 0", "0:0 1:1"), ("tree 1", "0:2"), ("tree 2", "0:3"), ("tree 3", ""), ("tree 99", ""),
                          ("pairs 0", "0:0 1:1"), ("pairs 1", "0:3 1:2"), ("pairs 2", "")]:
            self.assertEqual(desk.say(f"busy {row}"), told, row)

    def test_no_plan(self):
        desk = full_desk()
        for moment in ["0", "4", "1000"]:
            self.assertEqual(desk.say(f"busy x {moment}"), "none")

    def test_no_works(self):
        desk = Desk()
        for text in ["alike 1 / .", "open -", "tails -", "windows 1", "tree 1 / .", "pairs 0"]:
            desk.say(f"floor f {text}")
            self.assertEqual(desk.say("busy f 0"), "")

    def test_far_moments(self):
        desk = full_desk()
        for name in FLOORS:
            self.assertEqual(desk.say(f"busy {name} " + "9" * 60), "none" if name == "x" else "")

    def test_sorted_by_number_and_not_by_text(self):
        desk = Desk()
        desk.say("floor a alike 12 / " + " ".join(["1"] * 12))
        self.assertEqual(desk.say("busy a 0"), " ".join(f"{k}:{k}" for k in range(12)))
        desk.say("floor t tree 12 / " + " ".join(["-1"] * 12))
        self.assertEqual(desk.say("busy t 0"), " ".join(f"{k}:{k}" for k in range(12)))

    def test_moments_that_are_none(self):
        desk = full_desk()
        for name in FLOORS:
            for moment in ["", "-1", "-0", "00", "01", "+1", "x", ".", "-", "/", "1" * 61, "-" + "1" * 60]:
                self.refused(desk, f"busy {name} {moment}", NoText)


class Refusals(Looking):

    def test_rows_that_are_none(self):
        desk = full_desk()
        for row in ["", " ", "  ", "name", "names ", " names", "names a", "Names", "NAMES", "floor", "floor a", "late",
                    "late a", "drop", "drop a b", "drop a ", "drop  a", " drop a", "show", "show a b", "show a ",
                    "plan", "plan a b", "end", "end a b", "why", "why a b", "keeps", "keeps a", "shows", "shows a",
                    "busy", "busy a", "busy a 0 0", "busy a 0 ", "busy  a 0", "fits a -", "reason a", "word a", "ok",
                    "say names", "floor\ta tails -", "a", "tails -"]:
            self.refused(desk, row, NoRow)

    def test_names_that_are_none(self):
        desk = full_desk()
        for name in ["", "A", "aB", "a1", "1", "abcdefghi", "a-b", "a/b", ".", "-", "a_b", "nine" * 3]:
            for row in ["floor {} tails -", "late {} -", "drop {}", "show {}", "plan {}", "end {}", "why {}",
                        "keeps {} -", "shows {} -", "busy {} 0"]:
                self.refused(desk, row.replace("{}", name), NoName)
        for number in range(ord("!"), ord("~") + 1):
            if chr(number) not in "abcdefghijklmnopqrstuvwxyz":
                self.refused(desk, f"show a{chr(number)}", NoName)
                self.refused(desk, f"floor {chr(number)} tails -", NoName)

    def test_names_by_which_nothing_stands(self):
        desk = full_desk()
        for row in ["late no -", "drop no", "show no", "plan no", "end no", "why no", "keeps no -", "shows no -",
                    "busy no 0"]:
            self.refused(desk, row, NoName)

    def test_which_refusal_comes_first(self):
        desk = full_desk()
        for row, refusal in [("floor A 00", NoName), ("floor A nokind -", NoName), ("floor a 00", NoText),
                             ("floor a nokind 00", NoText), ("floor a nokind -", NoKind), ("floor a alike -", NoFloor),
                             ("late no 00", NoName), ("keeps no 00", NoName), ("shows A 00", NoName),
                             ("busy no x", NoName), ("busy no x y", NoRow), ("show A b", NoRow), ("busy x -1", NoText),
                             ("floor  tails -", NoName), ("keeps  a -", NoName)]:
            self.refused(desk, row, refusal)

    def test_the_desk_goes_on(self):
        desk = full_desk()
        self.refused(desk, "floor a alike -", NoFloor)
        self.assertEqual(desk.say("plan a"), PLANS["a"])


class Drawn(Looking):

    def test_floors_as_their_kinds_tell_them(self):
        chance = random.Random(28)
        for word in WORDS:
            for _ in range(40):
                rows = drawn_floor(chance, word, chance.choice([2, 5, FIFTY]))
                kind = kind_of(word)
                desk = Desk()
                desk.say(f"floor f {word} {shown_rows(rows)}")
                plan, end, reason = kind.plan(rows), kind.end(rows), kind.reason(rows)
                self.assertEqual(desk.say("plan f"), "none" if plan is None else shown_rows(plan))
                self.assertEqual(desk.say("end f"), "none" if end is None else str(end))
                self.assertEqual(desk.say("why f"), "none" if reason is None else shown_rows(reason))
                for other in [bent(chance, plan or []) for _ in range(3)] + [plan or []]:
                    told = "yes" if kind.keeps(rows, other) else "no"
                    self.assertEqual(desk.say(f"keeps f {shown_rows(other)}"), told)
                for other in [bent(chance, reason or []) for _ in range(3)] + [reason or []]:
                    told = "yes" if kind.shows(rows, other, end) else "no"
                    self.assertEqual(desk.say(f"shows f {shown_rows(other)}"), told)
                self.look_at_busy(desk, word, plan, chance)

    def look_at_busy(self, desk, word, plan, chance):
        for moment in [0, 1, 2, chance.randint(0, 9), chance.randint(0, FIFTY)]:
            if plan is None:
                pairs = None
            elif word in ("tree", "pairs"):
                pairs = list(enumerate(plan[moment])) if moment < len(plan) else []
            else:
                pairs = busy(plan, moment)
            told = "none" if pairs is None else " ".join(f"{place}:{work}" for place, work in pairs)
            self.assertEqual(desk.say(f"busy f {moment}"), told)

    def test_many_rows_at_one_desk(self):
        chance = random.Random(281)
        desk = Desk()
        kept = {}
        for _ in range(1500):
            name = chance.choice(["a", "b", "c", "d"])
            word = chance.choice(WORDS)
            rows = drawn_floor(chance, word, 3)
            if chance.random() < 0.3:
                rows = bent(chance, rows)
            what = chance.choice(["floor", "late", "drop", "names", "show"])
            try:
                if what == "floor":
                    told = desk.say(f"floor {name} {word} {shown_rows(rows)}")
                    self.assertIs(kind_of(word).fits(rows), True)
                    kept[name] = (word, rows)
                elif what == "late":
                    rows = rows[1:2]
                    told = desk.say(f"late {name} {shown_rows(rows)}")
                    kept[name] = (kept[name][0], kept[name][1] + rows)
                    self.assertIs(kind_of(kept[name][0]).fits(kept[name][1]), True)
                elif what == "drop":
                    told = desk.say(f"drop {name}")
                    kept.pop(name)
                else:
                    told = "ok"
                self.assertEqual(told, "ok")
            except FloorError as refusal:
                if what == "floor":
                    self.assertIs(type(refusal), NoFloor)
                    self.assertIs(kind_of(word).fits(rows), False)
                elif name not in kept:
                    self.assertIs(type(refusal), NoName)
                else:
                    self.assertIs(type(refusal), NoFloor)
                    self.assertIs(kind_of(kept[name][0]).fits(kept[name][1] + rows), False)
            self.assertEqual(desk.say("names"), " ".join(sorted(kept)))
            for each, (kind, floor) in kept.items():
                self.assertEqual(desk.say(f"show {each}"), f"{kind} {shown_rows(floor)}")
                self.assertEqual(read_rows(shown_rows(floor)), floor)


if __name__ == "__main__":
    unittest.main()
