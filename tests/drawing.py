"""Floors of each kind, drawn, and what points 24 and 26 say of them, word by word and hour by hour."""

import itertools

WORDS = ["alike", "open", "tails", "windows", "tree", "pairs"]

FIFTY = 10 ** 50 - 1


def drawn_alike(chance, most):
    return [[chance.randint(1, 5)], [chance.randint(0, most) for _ in range(chance.randint(0, 7))]]


def drawn_open(chance, most):
    benches = chance.randint(0, 4)
    return [[chance.choice([0, chance.randint(0, most)]) for _ in range(benches)] for _ in range(chance.randint(0, 4))]


def drawn_tails(chance, most):
    return [[chance.randint(0, most), chance.randint(1, most), chance.randint(0, most)]
            for _ in range(chance.randint(0, 6))]


def drawn_windows(chance, most):
    works = []
    for _ in range(chance.randint(0, 6)):
        come, due = sorted([chance.randint(0, 2 * most), chance.randint(0, 2 * most)])
        works.append([come, due, chance.choice([chance.randint(0, due - come), (due - come) // 2])])
        works[-1][2] += chance.random() < 0.05
    return [[chance.randint(1, 3)]] + works


def drawn_tree(chance, most):
    many = chance.randint(0, 12)
    order = list(range(many))
    chance.shuffle(order)
    behind = [-1] * many
    for place in range(1, many):
        if chance.random() < 0.8:
            behind[order[place]] = order[chance.randint(max(0, place - 4), place - 1)]
    return [[chance.randint(1, 4)], behind]


def drawn_pairs(chance, most):
    many = chance.randint(0, 9)
    order = list(range(many))
    chance.shuffle(order)
    often = chance.choice([0.1, 0.3, 0.6])
    return [[many]] + [list(pair) for pair in itertools.combinations(order, 2) if chance.random() < often]


DRAWN = {"alike": drawn_alike, "open": drawn_open, "tails": drawn_tails, "windows": drawn_windows, "tree": drawn_tree,
         "pairs": drawn_pairs}


def drawn_floor(chance, word, most):
    """A floor of the kind; its hours are not much more than the most."""
    return DRAWN[word](chance, most)


def is_order(many, needs):
    """Whether the needs name works alone and the works can be done one behind another."""
    if any(not 0 <= work < many for need in needs for work in need):
        return False
    left = set(range(many))
    while left:
        ready = {work for work in left if not any(b == work and a in left for a, b in needs)}
        if not ready:
            return False
        left -= ready
    return True


def needs_of(word, rows):
    if word == "pairs":
        return rows[1:]
    return [[work, later] for work, later in enumerate(rows[1]) if later != -1]


def has_head(rows, least, most):
    return len(rows) >= 1 and len(rows[0]) == 1 and rows[0][0] in range(least, most + 1)


def fits_by_definition(word, rows):
    """Point 24, kind by kind."""
    if word == "alike":
        return has_head(rows, 1, 20) and len(rows) == 2 and len(rows[1]) <= 20 and min(rows[1] + [0]) == 0
    if word == "open":
        return (len(rows) <= 6 and len({len(row) for row in rows}) <= 1 and max(map(len, rows), default=0) <= 6
                and min(sum(rows, [0])) == 0)
    if word == "tails":
        return len(rows) <= 12 and all(len(row) == 3 and min(row) >= 0 and row[1] > 0 for row in rows)
    if word == "windows":
        return (has_head(rows, 1, 8) and len(rows) <= 9
                and all(len(row) == 3 and 0 <= row[0] <= row[1] and 0 <= row[2] for row in rows[1:]))
    if word == "tree":
        return (has_head(rows, 1, 20) and len(rows) == 2 and len(rows[1]) <= 40 and min(rows[1] + [-1]) == -1
                and is_order(len(rows[1]), needs_of(word, rows)))
    return (has_head(rows, 0, 14) and all(len(row) == 2 for row in rows[1:]) and is_order(rows[0][0], rows[1:]))


def cells_of(plan):
    """The (bench, work, moment) of each hour of the rows; None where a list is no row."""
    if not all(len(row) == 4 and min(row) >= 0 and row[2] < row[3] for row in plan):
        return None
    return [(bench, work, moment) for bench, work, begin, end in plan for moment in range(begin, end)]


def keeps_cells(cells, benches, works):
    """Whether no moment lies in two rows of a bench or a work, and each of them is one of so many."""
    if cells is None or any(bench >= benches or work >= works for bench, work, _ in cells):
        return False
    return (len({(bench, moment) for bench, _, moment in cells}) == len(cells)
            == len({(work, moment) for _, work, moment in cells}))


def keeps_turns(word, rows, plan):
    many = len(rows[1]) if word == "tree" else rows[0][0]
    most = rows[0][0] if word == "tree" else 2
    turns = {work: [number for number, turn in enumerate(plan) for each in turn if each == work]
             for work in list(range(many)) + [work for turn in plan for work in turn]}
    if len(turns) != many or any(len(numbers) != 1 for numbers in turns.values()):
        return False
    if not all(0 < len(turn) <= most for turn in plan):
        return False
    return all(turns[first][0] < turns[later][0] for first, later in needs_of(word, rows))


def keeps_by_definition(word, rows, plan):
    """Point 26 of a plan, hour by hour, for small numbers."""
    if word in ("tree", "pairs"):
        return keeps_turns(word, rows, plan)
    cells = cells_of(plan)
    if word == "open":
        benches = len(rows[0]) if rows else 0
        return keeps_cells(cells, benches, len(rows)) and all(
            sum(cell[:2] == (bench, hand) for cell in cells) == rows[hand][bench]
            for hand in range(len(rows)) for bench in range(benches))
    if word == "alike":
        works = [(0, None, hours) for hours in rows[1]]
    if word == "tails":
        works = [(come, None, hours) for come, hours, _ in rows]
    if word == "windows":
        works = rows[1:]
    if not keeps_cells(cells, 1 if word == "tails" else rows[0][0], len(works)):
        return False
    for number, (come, due, hours) in enumerate(works):
        moments = [moment for _, work, moment in cells if work == number]
        if len(moments) != hours or any(moment < come or due is not None and moment >= due for moment in moments):
            return False
    return True


def level_in(behind, work):
    return 1 if behind[work] == -1 else 1 + level_in(behind, behind[work])


def is_ahead(needs, first, later):
    return any(a == first and (b == later or is_ahead(needs, b, later)) for a, b in needs)


def rises_within(numbers, many):
    return numbers == sorted(set(numbers)) and set(numbers) <= set(range(many))


def shown_end(word, rows, reason):
    """The end that a reason shows by point 26, for the kinds where it is a number; None where it is no reason."""
    if word == "pairs":
        works = sum(reason, [])
        needs = [list(need) for need in {tuple(need) for need in rows[1:]}]
        if not all(reason) or not rises_within(sorted(works), rows[0][0]) or len(set(works)) != len(works):
            return None
        if not all(is_ahead(needs, a, b) for block, later in zip(reason, reason[1:]) for a in block for b in later):
            return None
        return sum(-(-len(block) // 2) for block in reason)
    if len(reason) != 1:
        return None
    told = reason[0]
    if word == "alike":
        if told == []:
            return -(-sum(rows[1]) // rows[0][0])
        return rows[1][told[0]] if len(told) == 1 and told[0] in range(len(rows[1])) else None
    if word == "tree":
        if len(told) != 1 or told[0] < 0:
            return None
        high = sum(level_in(rows[1], work) >= told[0] for work in range(len(rows[1])))
        return -(-high // rows[0][0]) + told[0] - 1 if told[0] > 0 and high else 0
    if told == []:
        return 0
    if word == "tails":
        if not rises_within(told, len(rows)):
            return None
        some = [rows[work] for work in told]
        return min(work[0] for work in some) + sum(work[1] for work in some) + min(work[2] for work in some)
    if len(told) != 2 or told[0] not in (0, 1):
        return None
    loads = [[sum(row) for row in rows], [sum(column) for column in zip(*rows)]][told[0]]
    return loads[told[1]] if told[1] in range(len(loads)) else None


def shows_no_plan(rows, reason):
    """Point 26 of a reason for windows, hour by hour, for small numbers."""
    if not reason or not rises_within(reason[0], len(rows) - 1):
        return False
    stretches = reason[1:]
    if not all(len(stretch) == 2 and stretch[0] < stretch[1] for stretch in stretches):
        return False
    covered = [moment for begin, end in stretches for moment in range(begin, end)]
    if covered != sorted(set(covered)):
        return False
    some = [rows[1 + work] for work in reason[0]]
    outside = [moment for come, due, _ in some for moment in range(come, due) if moment not in covered]
    return sum(hours for _, _, hours in some) > len(covered) * rows[0][0] + len(outside)


def shows_by_definition(word, rows, reason, end):
    """Point 26 of a reason."""
    if word == "windows":
        return end is None and shows_no_plan(rows, reason)
    shown = shown_end(word, rows, reason)
    return end is not None and shown is not None and shown >= end


def bent(chance, rows):
    """The rows with something more, something less or something else, once or twice."""
    rows = [list(row) for row in rows]
    for _ in range(chance.choice([1, 1, 1, 2])):
        place = chance.randrange(len(rows)) if rows else 0
        change = chance.randrange(9)
        if change == 0 or not rows:
            rows.insert(place, [chance.randint(-1, 3) for _ in range(chance.choice([0, 1, 2, 3, 4, 4, 4, 5]))])
        elif change == 1:
            rows.pop(place)
        elif change == 2:
            rows.insert(place, list(rows[chance.randrange(len(rows))]))
        elif change == 3:
            chance.shuffle(rows)
        elif change == 4 and len(rows[place]) == 4 and rows[place][3] - rows[place][2] > 1:
            middle = rows[place][2] + 1
            rows.append(rows[place][:2] + [middle, rows[place][3]])
            rows[place][3] = middle
        elif change == 5:
            rows[place].append(chance.randint(-1, 4))
        elif rows[place]:
            number = chance.randrange(len(rows[place]))
            if change == 6:
                rows[place].pop(number)
            elif change == 7:
                chance.shuffle(rows[place])
            else:
                rows[place][number] += chance.choice([-1, 1])
    return rows
