"""The six kinds of floors: each tells which rows are its floors, their plans, ends and reasons, and looks at others."""

from leastfloor.alike import end_shown, least_end, why_end, wrapped
from leastfloor.errors import NoKind, NoOrder
from leastfloor.openfloor import open_plan, why_open
from leastfloor.orders import ahead_of, keeps_order
from leastfloor.pairs import BENCHES, are_blocks, pair_turns, turns_needed, why_pairs
from leastfloor.phases import loads, open_end
from leastfloor.planrows import busy, has_hours, lies_on, none_too_late, none_too_soon, rows_of
from leastfloor.tails import bound, tail_end, tail_plan, why_tail
from leastfloor.trees import levels, tree_turns, turns_shown, why_tree
from leastfloor.wholes import are_rising, none_below, tells_one
from leastfloor.windows import lacks_room, no_window, window_plan


class Floor:
    """A kind of floor. But for the word and `fits`, it is asked only of rows that are a floor of the kind."""

    def word(self):
        """The kind's word."""
        raise NotImplementedError("each kind has a word of its own")

    def fits(self, rows):
        """Whether the rows are a floor of the kind."""
        raise NotImplementedError("each kind has floors of its own")

    def plan(self, rows):
        """The rows of a plan of the floor, None where there is none."""
        raise NotImplementedError("each kind has plans of its own")

    def end(self, rows):
        """The least end of the floor, None where there is no plan."""
        raise NotImplementedError("each kind has ends of its own")

    def reason(self, rows):
        """The rows of a reason for the floor's end, None where none is needed."""
        raise NotImplementedError("each kind has reasons of its own")

    def keeps(self, rows, plan):
        """Whether the plan, any rows, keeps the rules of the floor."""
        raise NotImplementedError("each kind has rules of its own")

    def shows(self, rows, reason, end):
        """Whether the reason, any rows, shows that no plan of the floor ends before the end."""
        if end is None:
            return False
        shown = self.shown_by(rows, reason)
        return shown is not None and shown >= end

    def shown_by(self, rows, reason):
        """The end that the reason, any rows, shows; None where it is no reason."""
        raise NotImplementedError("each kind has reasons of its own")

    def busy_at(self, rows, moment):
        """The tuples (bench, work) that the floor's plan has at the moment, sorted; None where there is no plan."""
        plan = self.plan(rows)
        if plan is None:
            return None
        return busy(plan, moment)


class Alike(Floor):
    """[benches], then the list of the works' hours."""

    def word(self):
        """The kind's word."""
        return "alike"

    def fits(self, rows):
        """Whether the rows are a floor of the kind."""
        if len(rows) != 2 or not tells_one(rows[0], 1, 20):
            return False
        return len(rows[1]) <= 20 and none_below(rows[1], 0)

    def plan(self, rows):
        """The rows of a plan of the floor."""
        return wrapped(rows[1], rows[0][0], self.end(rows))

    def end(self, rows):
        """The least end of the floor."""
        return least_end(rows[1], rows[0][0])

    def reason(self, rows):
        """The rows of a reason for the floor's end."""
        return [why_end(rows[1], rows[0][0])]

    def keeps(self, rows, plan):
        """Whether the plan, any rows, keeps the rules of the floor."""
        return lies_on(plan, rows[0][0], len(rows[1])) and has_hours(plan, rows[1])

    def shown_by(self, rows, reason):
        """The end that the reason, any rows, shows; None where it is no reason."""
        if len(reason) != 1 or not (reason[0] == [] or tells_one(reason[0], 0, len(rows[1]) - 1)):
            return None
        return end_shown(rows[1], rows[0][0], reason[0])


class Open(Floor):
    """A table: for each hand a list of its hours at each bench."""

    def word(self):
        """The kind's word."""
        return "open"

    def fits(self, rows):
        """Whether the rows are a floor of the kind."""
        if len(rows) > 6:
            return False
        return all([len(row) == len(rows[0]) and len(row) <= 6 and none_below(row, 0) for row in rows])

    def plan(self, rows):
        """The rows of a plan of the floor."""
        return open_plan(rows)

    def end(self, rows):
        """The least end of the floor."""
        return open_end(rows)

    def reason(self, rows):
        """The rows of a reason for the floor's end."""
        return [why_open(rows)]

    def keeps(self, rows, plan):
        """Whether the plan, any rows, keeps the rules of the floor."""
        benches = len(loads(rows)[1])
        if not lies_on(plan, benches, len(rows)):
            return False
        return all([has_hours(rows_of(plan, bench), [row[bench] for row in rows]) for bench in range(benches)])

    def shown_by(self, rows, reason):
        """The end that the reason, any rows, shows; None where it is no reason."""
        if reason == [[]]:
            return 0
        if len(reason) != 1 or len(reason[0]) != 2 or reason[0][0] not in (0, 1):
            return None
        sums = loads(rows)[reason[0][0]]
        number = reason[0][1]
        return sums[number] if 0 <= number < len(sums) else None


class Tails(Floor):
    """The works, lists [come, hours, tail]."""

    def word(self):
        """The kind's word."""
        return "tails"

    def fits(self, rows):
        """Whether the rows are a floor of the kind."""
        return len(rows) <= 12 and all([len(row) == 3 and none_below(row, 0) and row[1] >= 1 for row in rows])

    def plan(self, rows):
        """The rows of a plan of the floor."""
        return tail_plan(rows)

    def end(self, rows):
        """The least end of the floor."""
        return tail_end(rows)

    def reason(self, rows):
        """The rows of a reason for the floor's end."""
        return [why_tail(rows)]

    def keeps(self, rows, plan):
        """Whether the plan, any rows, keeps the rules of the floor."""
        if not lies_on(plan, 1, len(rows)) or not has_hours(plan, [hours for come, hours, tail in rows]):
            return False
        return none_too_soon(plan, [come for come, hours, tail in rows])

    def shown_by(self, rows, reason):
        """The end that the reason, any rows, shows; None where it is no reason."""
        if reason == [[]]:
            return 0
        if len(reason) == 1 and are_rising(reason[0], len(rows)):
            return bound(rows, reason[0])
        return None


class Windows(Floor):
    """[benches], then the works, lists [come, due, hours]. Here a reason shows that there is no plan at all."""

    def word(self):
        """The kind's word."""
        return "windows"

    def fits(self, rows):
        """Whether the rows are a floor of the kind."""
        if not 1 <= len(rows) <= 9 or not tells_one(rows[0], 1, 8):
            return False
        return all([len(row) == 3 and none_below(row, 0) and row[0] <= row[1] for row in rows[1:]])

    def plan(self, rows):
        """The rows of a plan of the floor, None where there is none."""
        return window_plan(rows[1:], rows[0][0])

    def end(self, rows):
        """The greatest due, 0 of no works; None where there is no plan."""
        if self.plan(rows) is None:
            return None
        return max([due for come, due, hours in rows[1:]], default=0)

    def reason(self, rows):
        """The works, and behind them the stretches, that show that there is no plan; None where there is one."""
        told = no_window(rows[1:], rows[0][0])
        if told is None:
            return None
        return [told[0]] + told[1]

    def keeps(self, rows, plan):
        """Whether the plan, any rows, keeps the rules of the floor."""
        works = rows[1:]
        if not lies_on(plan, rows[0][0], len(works)) or not has_hours(plan, [hours for come, due, hours in works]):
            return False
        comes = [come for come, due, hours in works]
        dues = [due for come, due, hours in works]
        return none_too_soon(plan, comes) and none_too_late(plan, dues)

    def shows(self, rows, reason, end):
        """Whether the reason, any rows, shows that there is no plan, and None is the end."""
        if end is not None or not reason:
            return False
        return lacks_room(rows[1:], rows[0][0], reason[0], reason[1:])


class Turns(Floor):
    """A kind of floor whose plan is a list of turns, lists of works."""

    def many(self, rows):
        """How many works there are."""
        raise NotImplementedError("each kind tells its works in its own way")

    def places(self, rows):
        """How many works a turn can have."""
        raise NotImplementedError("each kind tells its benches in its own way")

    def needs(self, rows):
        """Lists [first, later] of works of which the later one has to be in a later turn."""
        raise NotImplementedError("each kind tells its order in its own way")

    def end(self, rows):
        """The least number of turns."""
        return len(self.plan(rows))

    def keeps(self, rows, plan):
        """Whether the plan, any rows, keeps the rules of the floor."""
        return keeps_order(self.many(rows), self.needs(rows), self.places(rows), plan)

    def busy_at(self, rows, moment):
        """The tuples (place, work) of the turn that has the moment's number, in the plan of the floor."""
        turns = self.plan(rows)
        return list(enumerate(turns[moment])) if moment < len(turns) else []


class Tree(Turns):
    """[benches], then the list that tells for each work the one that has to be later, or -1."""

    def word(self):
        """The kind's word."""
        return "tree"

    def fits(self, rows):
        """Whether the rows are a floor of the kind."""
        if len(rows) != 2 or not tells_one(rows[0], 1, 20) or len(rows[1]) > 40:
            return False
        try:
            levels(rows[1])
        except NoOrder:
            return False
        return True

    def many(self, rows):
        """How many works there are."""
        return len(rows[1])

    def places(self, rows):
        """How many works a turn can have."""
        return rows[0][0]

    def needs(self, rows):
        """Lists [first, later] of works of which the later one has to be in a later turn."""
        return [[work, later] for work, later in enumerate(rows[1]) if later != -1]

    def plan(self, rows):
        """The turns of a plan of the floor."""
        return tree_turns(rows[1], rows[0][0])

    def reason(self, rows):
        """The rows of a reason for the floor's end."""
        return [[why_tree(rows[1], rows[0][0])]]

    def shown_by(self, rows, reason):
        """The end that the reason, any rows, shows; None where it is no reason."""
        if len(reason) != 1 or len(reason[0]) != 1 or reason[0][0] < 0:
            return None
        return turns_shown(rows[1], rows[0][0], reason[0][0])


class Pairs(Turns):
    """[works], then lists [first, later] of works, the first of which has to be in an earlier turn."""

    def word(self):
        """The kind's word."""
        return "pairs"

    def fits(self, rows):
        """Whether the rows are a floor of the kind."""
        if not rows or not tells_one(rows[0], 0, 14) or not all([len(row) == 2 for row in rows[1:]]):
            return False
        try:
            ahead_of(rows[0][0], rows[1:])
        except NoOrder:
            return False
        return True

    def many(self, rows):
        """How many works there are."""
        return rows[0][0]

    def places(self, rows):
        """How many works a turn can have."""
        return BENCHES

    def needs(self, rows):
        """Lists [first, later] of works of which the later one has to be in a later turn."""
        return [list(row) for row in rows[1:]]

    def plan(self, rows):
        """The turns of a plan of the floor."""
        return pair_turns(rows[0][0], rows[1:])

    def reason(self, rows):
        """The blocks that are a reason for the floor's end."""
        return why_pairs(rows[0][0], rows[1:])

    def shown_by(self, rows, reason):
        """The end that the blocks, any rows, show; None where they are no reason."""
        if not are_blocks(rows[0][0], rows[1:], reason):
            return None
        return turns_needed(reason)


def kinds():
    """The six kinds, in their order."""
    return [Alike(), Open(), Tails(), Windows(), Tree(), Pairs()]


def kind_of(word):
    """The kind that has this word."""
    for kind in kinds():
        if kind.word() == word:
            return kind
    raise NoKind(f"no kind of floor is called {word!r}")
