import random
import unittest

from leastfloor.errors import NoFloor, NoKind, NoText
from leastfloor.texts import read_floor, read_rows, shown_rows
from looking import look_at_lists

SIXTY = "1" + "0" * 59

SIGNS = [chr(number) for number in range(ord(" "), ord("~") + 1) if chr(number) != "%"]

TEXTS = {
    "-": [], ".": [[]], "0": [[0]], "7": [[7]], "-7": [[-7]], "1 2 3": [[1, 2, 3]], "1 / 2": [[1], [2]],
    ". / .": [[], []], ". / 1 / .": [[], [1], []], "1 2 / . / -3 0": [[1, 2], [], [-3, 0]],
    "10 100": [[10, 100]], "-10": [[-10]], SIXTY: [[10 ** 59]], "-" + SIXTY: [[-10 ** 59]],
    "9" * 60 + " / " + "9" * 60: [[10 ** 60 - 1], [10 ** 60 - 1]],
}

NUMBERS_THAT_ARE_NONE = ["", "1" * 61, "-" + "1" * 61, "0" * 61, "00", "-0", "+1", "01", "-01", "007", "-00", "+0",
                         "--1", "1-", "-", "1.0", "1,0", "1_0", "0x1", "1e3", "a", "A", "1a", "a1", ".", "..", "1/2",
                         "(1)", "~", "$1", ".1", "1."]

WRONG_TEXTS = [text for text in NUMBERS_THAT_ARE_NONE if text not in ("-", ".")] + [
    "/", " ", " 1", "1 ", "  ", "1  2", " - ", "- ", " -", " .", ". ", "- -", ". .", "1 .", ". 1", "- 1", "1 -", "-/-",
    "./.", "/ 1", "1 /", " / ", "1 / ", " / 1", "1 /  2", "1  / 2", "1/ 2", "1 /2", "1 // 2", "1 / / 2", "1 / / / 2",
    "- / 1", "1 / -", "- / -", ". / -", "1 / 2 /", "1 / 2 / ", "1 | 2", "1 / . 2", "1 . / 2", "1 2 / 3 04"]


def drawn_rows(chance):
    rows = []
    for _ in range(chance.randint(0, 6)):
        rows.append([chance.choice([-1, 1]) * chance.randint(0, chance.choice([1, 30, 10 ** 60 - 1]))
                     for _ in range(chance.randint(0, 5))])
    return rows


def wrong_texts_near(text):
    """The text with a sign more, or less, or another one."""
    chance = random.Random(text)
    for _ in range(20):
        place = chance.randint(0, len(text))
        yield text[:place] + chance.choice(" /.-+0a") + text[place:]
        yield text[:place] + text[place + 1:]
        yield text[:place] + chance.choice(" /.-+0a") + text[place + 1:]


def by_definition(text):
    """The rows of the text as point 27 tells it, sign by sign; None where it is of another form."""
    if text == "-":
        return []
    rows = [[]]
    words = text.split(" ")
    fresh = True
    for word in words + ["/"]:
        if word == "/":
            if fresh:
                return None
            rows.append([])
            fresh = True
        elif rows[-1] == ["."]:
            return None
        elif word == ".":
            if not fresh:
                return None
            rows[-1] = ["."]
            fresh = False
        else:
            figures = word[1:] if word[:1] == "-" else word
            if not figures or len(figures) > 60 or set(figures) - set("0123456789"):
                return None
            if str(int(word)) != word:
                return None
            rows[-1].append(int(word))
            fresh = False
    rows.pop()
    return [[] if row == ["."] else row for row in rows]


class Rows(unittest.TestCase):

    def test_read(self):
        for text, rows in TEXTS.items():
            self.assertEqual(read_rows(text), rows, text)

    def test_shown(self):
        for text, rows in TEXTS.items():
            self.assertEqual(shown_rows(rows), text)

    def test_numbers_that_are_none(self):
        for text in NUMBERS_THAT_ARE_NONE:
            for whole in [f"1 {text}", f"{text} 1", f"1 {text} 2", f"5 / 1 {text}"]:
                with self.assertRaises(NoText, msg=whole):
                    read_rows(whole)

    def test_each_sign_that_is_no_figure(self):
        for sign in SIGNS:
            for text in [f"1{sign}1", f"{sign}1", f"1{sign}", f"2 {sign}{sign}", f"-{sign}"]:
                if sign not in "0123456789" and by_definition(text) is None:
                    with self.assertRaises(NoText, msg=text):
                        read_rows(text)

    def test_wrong_texts(self):
        for text in WRONG_TEXTS:
            with self.assertRaises(NoText, msg=text):
                read_rows(text)

    def test_numbers_of_sixty_and_sixty_one_figures(self):
        self.assertEqual(read_rows("9" * 60), [[10 ** 60 - 1]])
        self.assertEqual(read_rows("-" + "9" * 60), [[1 - 10 ** 60]])
        for text in ["9" * 61, "-" + "9" * 61, "1" + "0" * 60]:
            with self.assertRaises(NoText):
                read_rows(text)

    def test_each_text_read_and_shown_again(self):
        chance = random.Random(27)
        for _ in range(300):
            rows = drawn_rows(chance)
            text = shown_rows(rows)
            self.assertEqual(read_rows(text), rows)
            self.assertEqual(shown_rows(read_rows(text)), text)

    def test_texts_with_a_sign_amiss(self):
        chance = random.Random(28)
        refused = 0
        for _ in range(60):
            for text in wrong_texts_near(shown_rows(drawn_rows(chance))):
                rows = by_definition(text)
                if rows is None:
                    refused += 1
                    with self.assertRaises(NoText, msg=text):
                        read_rows(text)
                else:
                    self.assertEqual(read_rows(text), rows, text)
        self.assertGreater(refused, 500)

    def test_a_hundred_thousand_signs(self):
        rows = [[k, -k - 1] for k in range(9000)]
        self.assertEqual(read_rows(shown_rows(rows)), rows)

    def test_lists_handed_in_and_told(self):
        for rows in TEXTS.values():
            look_at_lists(self, shown_rows, [list(row) for row in rows])
        for text in TEXTS:
            look_at_lists(self, read_rows, text)


class Floors(unittest.TestCase):

    FLOORS = {
        "alike 2 / 5 4 0": ("alike", [[2], [5, 4, 0]]), "open 1 2 / 0 3": ("open", [[1, 2], [0, 3]]),
        "tails -": ("tails", []), "windows 2 / 0 5 3": ("windows", [[2], [0, 5, 3]]), "tree 2 / .": ("tree", [[2], []]),
        "pairs 3 / 0 2": ("pairs", [[3], [0, 2]]), "alike 1 / .": ("alike", [[1], []]), "open -": ("open", []),
        "open . / .": ("open", [[], []]), "tails 0 1 0": ("tails", [[0, 1, 0]]), "windows 8": ("windows", [[8]]),
        "tree 1 / -1 0": ("tree", [[1], [-1, 0]]), "pairs 0": ("pairs", [[0]])}

    def test_read(self):
        for text, told in self.FLOORS.items():
            self.assertEqual(read_floor(text), told)
            self.assertIs(type(read_floor(text)), tuple)
            look_at_lists(self, read_floor, text)

    def test_another_form(self):
        for text in ["", " ", "alike", "open", "tails", "alike ", " alike 2 / 5", "alike  2 / 5", "alike 2 / 5 ",
                     "Alike 2 / 5", "ALIKE 2 / 5", "alike2 2 / 5", "2 / 5", "alike-2 / 5", "alike 2 / 05", "alike 2/5",
                     "alike / 2 / 5", "alike\t2 / 5", "windowses 2", "abcdefghi -", "tree 2 / . .", "pairs 3 0 / 2 /",
                     "-", ". 2", "tails - -", "tails . -", "alike 2 / " + "1" * 61, "a1 -", "a- -", "a.b -",
                     "al ike 2"]:
            with self.assertRaises(NoText, msg=text):
                read_floor(text)

    def test_each_sign_that_is_no_small_letter(self):
        for sign in SIGNS:
            if sign not in "abcdefghijklmnopqrstuvwxyz":
                for text in [f"{sign}alike 2 / 5", f"ali{sign}ke 2 / 5", f"{sign} -"]:
                    with self.assertRaises(NoText, msg=text):
                        read_floor(text)

    def test_no_kind(self):
        for text in ["a -", "alik 2 / 5", "opens 1 2", "window 2", "trees 2 / .", "pair 3", "floor -", "turns 2 / .",
                     "abcdefgh -", "zzzzzzzz 1 / 2 3 / .", "windowss 2"]:
            with self.assertRaises(NoKind, msg=text):
                read_floor(text)

    def test_no_floor(self):
        for text in ["alike -", "alike 2", "alike 0 / 5", "alike 2 / 5 / 4", "alike 2 / -1", "open 1 / 2 3", "open -1",
                     "tails .", "tails 0 0 0", "windows -", "windows 9", "windows 2 / 5 4 0", "tree 2", "tree 2 / 0",
                     "pairs -", "pairs 15", "pairs 3 / 0 3", "pairs 2 / 0 1 / 1 0"]:
            with self.assertRaises(NoFloor, msg=text):
                read_floor(text)

    def test_which_refusal_comes_first(self):
        for text, refusal in [("nokind 01", NoText), ("NOKIND -", NoText), ("ninesigns -", NoText),
                              ("alike 0 / x", NoText), ("nokind 0 / 5", NoKind), ("nokind", NoText),
                              ("nokind ", NoText), ("alike 0 / 5", NoFloor)]:
            with self.assertRaises(refusal, msg=text):
                read_floor(text)


if __name__ == "__main__":
    unittest.main()
