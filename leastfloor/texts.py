"""Texts of numbers, rows and floors, read and shown."""

from leastfloor.errors import NoFloor, NoText
from leastfloor.floors import kind_of

LETTERS = "abcdefghijklmnopqrstuvwxyz"
FIGURES = "0123456789"
MOST_FIGURES = 60
MOST_LETTERS = 8
NO_ROWS = "-"
NO_NUMBERS = "."


def is_name(text):
    """Whether the text is one to eight small letters."""
    return 1 <= len(text) <= MOST_LETTERS and all([sign in LETTERS for sign in text])


def is_number(text):
    """Whether the text is a number's, of just the form in which it would be shown."""
    figures = text[1:] if text.startswith("-") else text
    if not 1 <= len(figures) <= MOST_FIGURES or not all([sign in FIGURES for sign in figures]):
        return False
    return text == "0" or not figures.startswith("0")


def read_number(text):
    """The number of this text."""
    if not is_number(text):
        raise NoText(f"{text!r} is no number's text")
    return int(text)


def read_rows(text):
    """The rows of this text."""
    if text == NO_ROWS:
        return []
    return [read_row(part) for part in text.split(" / ")]


def read_row(text):
    """The numbers of one row's text."""
    if text == NO_NUMBERS:
        return []
    return [read_number(part) for part in text.split(" ")]


def shown_rows(rows):
    """The text of the rows."""
    if not rows:
        return NO_ROWS
    return " / ".join([shown_row(row) for row in rows])


def shown_row(row):
    """The text of one row."""
    if not row:
        return NO_NUMBERS
    return " ".join([str(number) for number in row])


def read_floor(text):
    """The word and the rows of a floor's text."""
    parts = text.partition(" ")
    word = parts[0]
    if not is_name(word):
        raise NoText(f"{word!r} is no kind's word")
    rows = read_rows(parts[2])
    if not kind_of(word).fits(rows):
        raise NoFloor(f"these rows are no floor of the kind {word}")
    return (word, rows)
