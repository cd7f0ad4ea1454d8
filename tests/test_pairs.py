import copy
import functools
import itertools
import random
import unittest

from leastfloor.errors import NoOrder
from leastfloor.orders import ahead_of, marks
from leastfloor.pairs import pair_turns, why_pairs
from leastfloor.trees import tree_turns
from looking import look_at_lists

HUGE = 10 ** 59

REFUSED = [(0, [[0, 0]]), (1, [[0, 0]]), (1, [[0, 1]]), (2, [[0, 1], [1, 0]]), (3, [[0, 1], [1, 2], [2, 0]]),
           (3, [[0, -1]]), (3, [[3, 0]]), (3, [[0, HUGE]]), (14, [[13, 14]]), (4, [[3, 2], [2, 1], [1, 0], [0, 2]])]


def drawn_needs(chance, many):
    """Needs of works that stand in any order, some told more than once."""
    order = list(range(many))
    chance.shuffle(order)
    often = chance.choice([0.05, 0.1, 0.2, 0.4])
    needs = [list(pair) for pair in itertools.combinations(order, 2) if chance.random() < often]
    return needs + [list(chance.choice(needs)) for _ in range(chance.randint(0, 2)) if needs]


def layered_needs(chance, many):
    """Needs between neighbouring layers of works, where most blocks are found."""
    layers = []
    left = list(range(many))
    chance.shuffle(left)
    while left:
        size = chance.randint(1, 4)
        layers.append(left[:size])
        left = left[size:]
    needs = []
    for layer, later in zip(layers, layers[1:]):
        needs += [[a, b] for a in layer for b in later if chance.random() < 0.9]
    return needs


def drawn_orders():
    chance = random.Random(22)
    yield 0, []
    for _ in range(600):
        many = chance.randint(1, 14)
        yield many, chance.choice([drawn_needs, layered_needs])(chance, many)


def turns_by_definition(many, needs):
    """Point 22 word by word, with the marks of point 21."""
    given = marks(many, needs)
    done = []
    turns = []
    while len(done) < many:
        ready = [work for work in range(many) if work not in done and all(a in done for a, b in needs if b == work)]
        turn = []
        for mark in range(many, 0, -1):
            if given.index(mark) in ready and len(turn) < 2:
                turn.append(given.index(mark))
        turns.append(turn)
        done += turn
    return turns


def fewest_turns(many, needs):
    """The fewest turns over every choice, for few works."""

    @functools.lru_cache(maxsize=None)
    def fewest(done):
        if len(done) == many:
            return 0
        ready = [work for work in range(many) if work not in done and all(a in done for a, b in needs if b == work)]
        return 1 + min(fewest(done | set(chosen)) for chosen in itertools.combinations(ready, min(2, len(ready))))

    return fewest(frozenset())


class PairTurns(unittest.TestCase):

    def test_no_works(self):
        self.assertEqual(pair_turns(0, []), [])

    def test_one_work(self):
        self.assertEqual(pair_turns(1, []), [[0]])

    def test_the_greater_mark_first(self):
        self.assertEqual(pair_turns(4, []), [[3, 2], [1, 0]])
        self.assertEqual(pair_turns(5, []), [[4, 3], [2, 1], [0]])
        self.assertEqual(pair_turns(4, [[0, 2], [0, 3], [1, 3]]), [[0, 1], [3, 2]])

    def test_the_only_one(self):
        self.assertEqual(pair_turns(3, [[0, 1], [1, 2]]), [[0], [1], [2]])
        self.assertEqual(pair_turns(3, [[0, 1], [0, 2]]), [[0], [2, 1]])

    def test_none_ahead_of_what_it_needs(self):
        self.assertEqual(pair_turns(4, [[2, 0], [3, 0], [0, 1]]), [[3, 2], [0], [1]])

    def test_refusals(self):
        for many, needs in REFUSED:
            with self.assertRaises(NoOrder, msg=(many, needs)):
                pair_turns(many, needs)

    def test_as_the_definition_tells_it(self):
        for many, needs in drawn_orders():
            self.assertEqual(pair_turns(many, needs), turns_by_definition(many, needs), (many, needs))

    def test_no_choice_has_fewer_turns(self):
        chance = random.Random(23)
        for _ in range(400):
            many = chance.randint(0, 8)
            needs = chance.choice([drawn_needs, layered_needs])(chance, many)
            self.assertEqual(len(pair_turns(many, needs)), fewest_turns(many, needs), (many, needs))

    def test_works_in_a_tree_on_two_benches(self):
        chance = random.Random(3)
        for _ in range(200):
            many = chance.randint(0, 14)
            behind = [chance.choice([-1] + list(range(work + 1, many))) for work in range(many)]
            needs = [[work, later] for work, later in enumerate(behind) if later != -1]
            self.assertEqual(len(tree_turns(behind, 2)), len(pair_turns(many, needs)), behind)


class WhyPairs(unittest.TestCase):

    def test_no_works(self):
        self.assertEqual(why_pairs(0, []), [])

    def test_the_only_reason(self):
        self.assertEqual(why_pairs(1, []), [[0]])
        self.assertEqual(why_pairs(3, [[0, 1], [1, 2]]), [[0], [1], [2]])

    def test_one_block(self):
        self.assertEqual([sorted(block) for block in why_pairs(3, [])], [[0, 1, 2]])

    def test_refusals(self):
        for many, needs in REFUSED:
            with self.assertRaises(NoOrder, msg=(many, needs)):
                why_pairs(many, needs)

    def test_the_rules_of_blocks(self):
        several = 0
        for many, needs in drawn_orders():
            blocks = why_pairs(many, needs)
            ahead = ahead_of(many, needs)
            works = sum(blocks, [])
            self.assertEqual(len(set(works)), len(works))
            self.assertTrue(set(works) <= set(range(many)))
            self.assertTrue(all(blocks))
            for block, later in zip(blocks, blocks[1:]):
                self.assertTrue(all(b in ahead[a] for a in block for b in later), (many, needs))
            halves = sum((len(block) + 1) // 2 for block in blocks)
            self.assertEqual(halves, len(pair_turns(many, needs)), (many, needs))
            several += len(blocks) > 1 and max(len(block) for block in blocks) > 2
        self.assertGreater(several, 50)


class NothingIsChanged(unittest.TestCase):

    def test_lists_handed_in_and_told(self):
        for call in [pair_turns, why_pairs]:
            for many, needs in [(0, []), (3, []), (5, [[0, 3], [0, 1], [1, 2], [2, 3], [0, 3]])]:
                look_at_lists(self, call, many, copy.deepcopy(needs))


if __name__ == "__main__":
    unittest.main()
