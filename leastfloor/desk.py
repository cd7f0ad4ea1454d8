"""A desk that keeps floors by names, is told rows of text, and answers each with a text."""

from leastfloor.errors import NoFloor, NoName, NoRow, NoText
from leastfloor.floors import kind_of
from leastfloor.texts import is_name, read_floor, read_number, read_rows, shown_rows

# The first words, and how many words the row has: just as many, or as many and more.
JUST = {"names": 1, "drop": 2, "show": 2, "plan": 2, "end": 2, "why": 2, "busy": 3}
OR_MORE = {"floor": 3, "late": 3, "keeps": 3, "shows": 3}

OK = "ok"
NONE = "none"


class Desk:
    """Floors by names."""

    def __init__(self):
        """A desk without floors."""
        self.floors = {}

    def say(self, row):
        """The answer to a row."""
        words = row.split(" ")
        if not is_row(words):
            raise NoRow(f"the desk has no row {row!r}")
        if words[0] == "names":
            return " ".join(sorted(self.floors))
        name = words[1]
        if not is_name(name):
            raise NoName(f"{name!r} is no name")
        text = " ".join(words[2:])
        if words[0] == "floor":
            return self.put(name, read_floor(text))
        if name not in self.floors:
            raise NoName(f"no floor stands by {name}")
        if words[0] == "drop":
            return self.drop(name)
        if words[0] == "late":
            return self.put(name, with_rows(self.floors[name], read_rows(text)))
        return answer(words[0], self.floors[name], text)

    def put(self, name, floor):
        """Let the floor stand by the name."""
        self.floors[name] = floor
        return OK

    def drop(self, name):
        """Let no floor stand by the name."""
        self.floors.pop(name)
        return OK


def is_row(words):
    """Whether the desk has such a row, by its first word and by how many words there are."""
    first = words[0]
    if first in OR_MORE:
        return OR_MORE[first] <= len(words)
    return JUST.get(first) == len(words)


def with_rows(floor, later):
    """The floor with these rows put behind its own."""
    word = floor[0]
    rows = floor[1] + later
    if not kind_of(word).fits(rows):
        raise NoFloor(f"with these rows it is no floor of the kind {word}")
    return (word, rows)


def answer(asked, floor, text):
    """The answer to what is asked of a floor, a tuple of its kind's word and its rows."""
    kind = kind_of(floor[0])
    rows = floor[1]
    if asked == "show":
        return " ".join([floor[0], shown_rows(rows)])
    if asked == "plan":
        return rows_or_none(kind.plan(rows))
    if asked == "end":
        return number_or_none(kind.end(rows))
    if asked == "why":
        return rows_or_none(kind.reason(rows))
    if asked == "keeps":
        return yes_or_no(kind.keeps(rows, read_rows(text)))
    if asked == "shows":
        return yes_or_no(kind.shows(rows, read_rows(text), kind.end(rows)))
    return pairs_or_none(kind.busy_at(rows, read_moment(text)))


def read_moment(text):
    """The number from 0 on of this text."""
    moment = read_number(text)
    if moment < 0:
        raise NoText(f"no moment is {moment}")
    return moment


def rows_or_none(rows):
    """The text of the rows, or that there are none told."""
    return NONE if rows is None else shown_rows(rows)


def number_or_none(number):
    """The text of the number, or that there is none told."""
    return NONE if number is None else str(number)


def pairs_or_none(pairs):
    """The text of the tuples (bench, work), or that there is no plan."""
    return NONE if pairs is None else " ".join([f"{place}:{work}" for place, work in pairs])


def yes_or_no(truth):
    """The text of the truth."""
    return "yes" if truth else "no"
