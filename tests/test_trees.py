import functools
import itertools
import random
import unittest

from leastfloor.errors import NoOrder
from leastfloor.trees import levels, tree_turns, turns_shown, why_tree
from looking import look_at_lists

HUGE = 10 ** 59

CHAIN = [1, 2, 3, 4, -1]

REFUSED = [[-2], [0, -2], [-HUGE], [1], [2, -1], [-1, -1, 3], [HUGE], [0], [-1, 1], [1, 0], [1, 2, 0], [1, 2, 3, 1],
           [-1, 0, 3, 4, 2], [1, 2, 3, 4, 4], [-1, 5, -1, 2, -1], [-1] * 39 + [40], [-1] * 39 + [39],
           [k + 1 for k in range(39)] + [0]]


def drawn_tree(chance, many):
    """For each work one behind it or -1, the works' numbers in any order."""
    order = list(range(many))
    chance.shuffle(order)
    reach = chance.choice([1, 2, 4, many])
    roots = chance.choice([0.02, 0.2, 0.5])
    behind = [-1] * many
    for place in range(1, many):
        if chance.random() >= roots:
            behind[order[place]] = order[chance.randint(max(0, place - reach), place - 1)]
    return behind


def drawn_floors():
    chance = random.Random(18)
    for _ in range(600):
        yield drawn_tree(chance, chance.randint(0, 40)), chance.choice([1, 2, 2, 3, 3, 4, 7, 20])


def chain_from(behind, work):
    """The work and all that have to be later, one behind another."""
    return [] if work == -1 else [work] + chain_from(behind, behind[work])


def turns_by_definition(behind, benches):
    """Point 19 word by word."""
    many = len(behind)
    level = [len(chain_from(behind, work)) for work in range(many)]
    turns = []
    while len(sum(turns, [])) < many:
        done = sum(turns, [])
        ready = [work for work in range(many) if work not in done
                 and all(first in done for first in range(many) if behind[first] == work)]
        turn = []
        for height in range(max(level), 0, -1):
            for work in ready:
                if level[work] == height and len(turn) < benches:
                    turn.append(work)
        turns.append(sorted(turn))
    return turns


def fewest_turns(behind, benches):
    """The fewest turns over every choice, for few works."""
    many = len(behind)

    @functools.lru_cache(maxsize=None)
    def fewest(done):
        if len(done) == many:
            return 0
        ready = [work for work in range(many) if work not in done
                 and all(first in done for first in range(many) if behind[first] == work)]
        return 1 + min(fewest(done | set(chosen))
                       for chosen in itertools.combinations(ready, min(benches, len(ready))))

    return fewest(frozenset())


class Levels(unittest.TestCase):

    def test_no_works(self):
        self.assertEqual(levels([]), [])

    def test_one_work(self):
        self.assertEqual(levels([-1]), [1])

    def test_a_chain(self):
        self.assertEqual(levels(CHAIN), [5, 4, 3, 2, 1])
        self.assertEqual(levels([-1, 0, 1, 2]), [1, 2, 3, 4])

    def test_many_trees_at_once(self):
        self.assertEqual(levels([-1, 0, 0, -1, 3, 1, -1]), [1, 2, 2, 1, 2, 3, 1])

    def test_forty_works(self):
        self.assertEqual(levels([-1] * 40), [1] * 40)
        self.assertEqual(levels([k - 1 for k in range(40)]), list(range(1, 41)))
        self.assertEqual(levels([k + 1 for k in range(39)] + [-1]), list(range(40, 0, -1)))

    def test_refusals(self):
        for behind in REFUSED:
            with self.assertRaises(NoOrder, msg=behind):
                levels(behind)

    def test_as_the_definition_tells_it(self):
        for behind, _ in drawn_floors():
            self.assertEqual(levels(behind), [len(chain_from(behind, work)) for work in range(len(behind))])

    def test_a_drawn_tree_bent_into_a_ring(self):
        chance = random.Random(181)
        for _ in range(200):
            behind = drawn_tree(chance, chance.randint(1, 40))
            work = chance.randrange(len(behind))
            behind[chain_from(behind, work)[-1]] = work
            with self.assertRaises(NoOrder):
                levels(behind)


class TreeTurns(unittest.TestCase):

    def test_no_works(self):
        self.assertEqual(tree_turns([], 1), [])
        self.assertEqual(tree_turns([], 20), [])

    def test_a_chain(self):
        for benches in [1, 2, 20]:
            self.assertEqual(tree_turns(CHAIN, benches), [[0], [1], [2], [3], [4]])

    def test_works_without_order(self):
        self.assertEqual(tree_turns([-1] * 5, 2), [[0, 1], [2, 3], [4]])
        self.assertEqual(tree_turns([-1] * 5, 5), [[0, 1, 2, 3, 4]])
        self.assertEqual(tree_turns([-1] * 5, 20), [[0, 1, 2, 3, 4]])

    def test_the_highest_levels_first(self):
        self.assertEqual(tree_turns([-1, -1, 3, 4, -1], 2), [[0, 2], [1, 3], [4]])
        self.assertEqual(tree_turns([-1, -1, 3, 4, -1], 1), [[2], [3], [0], [1], [4]])

    def test_rising_in_each_turn(self):
        self.assertEqual(tree_turns([-1, 2, -1, 0, 1], 2), [[3, 4], [0, 1], [2]])

    def test_a_work_waits_for_all_that_are_ahead(self):
        self.assertEqual(tree_turns([3, 3, 3, -1], 2), [[0, 1], [2], [3]])

    def test_refusals(self):
        for behind in REFUSED:
            with self.assertRaises(NoOrder):
                tree_turns(behind, 2)

    def test_as_the_definition_tells_it(self):
        for behind, benches in drawn_floors():
            self.assertEqual(tree_turns(behind, benches), turns_by_definition(behind, benches), (behind, benches))

    def test_each_number_of_benches(self):
        chance = random.Random(19)
        for benches in range(1, 21):
            for _ in range(6):
                behind = drawn_tree(chance, 40)
                self.assertEqual(tree_turns(behind, benches), turns_by_definition(behind, benches), behind)

    def test_no_choice_has_fewer_turns(self):
        chance = random.Random(190)
        for _ in range(300):
            behind = drawn_tree(chance, chance.randint(0, 8))
            benches = chance.randint(1, 4)
            self.assertEqual(len(tree_turns(behind, benches)), fewest_turns(behind, benches), (behind, benches))


class TurnsShown(unittest.TestCase):

    def test_a_level_of_nought(self):
        for behind in [[], [-1], CHAIN, [-1] * 40]:
            self.assertEqual(turns_shown(behind, 2, 0), 0)

    def test_a_level_of_more_than_there_is(self):
        for behind, level in [([], 1), ([-1], 2), (CHAIN, 6), (CHAIN, HUGE), ([], HUGE)]:
            self.assertEqual(turns_shown(behind, 2, level), 0)

    def test_each_level(self):
        behind = [-1, 0, 0, 1, 1, 1, 3]
        self.assertEqual([turns_shown(behind, 1, level) for level in range(6)], [0, 7, 7, 6, 4, 0])
        self.assertEqual([turns_shown(behind, 2, level) for level in range(6)], [0, 4, 4, 4, 4, 0])
        self.assertEqual([turns_shown(behind, 3, level) for level in range(6)], [0, 3, 3, 4, 4, 0])

    def test_as_the_definition_tells_it(self):
        for behind, benches in drawn_floors():
            heights = [len(chain_from(behind, work)) for work in range(len(behind))]
            for level in range(1, max(heights, default=0) + 1):
                high = sum(height >= level for height in heights)
                told = turns_shown(behind, benches, level)
                self.assertEqual(told, -(-high // benches) + level - 1)
                self.assertIs(type(told), int)

    def test_refusals(self):
        for behind in REFUSED:
            for level in [0, 1, 99]:
                with self.assertRaises(NoOrder):
                    turns_shown(behind, 2, level)


class WhyTree(unittest.TestCase):

    def test_no_works(self):
        self.assertEqual(why_tree([], 1), 0)
        self.assertEqual(why_tree([], 20), 0)

    def test_the_least_of_several_levels(self):
        self.assertEqual(why_tree(CHAIN, 1), 1)
        self.assertEqual(why_tree([-1, 0, 0, 1, 1, 1, 3], 1), 1)
        self.assertEqual(why_tree([-1, 0, 0, 1, 1, 1, 3], 3), 3)

    def test_a_high_level(self):
        self.assertEqual(why_tree(CHAIN, 2), 5)
        self.assertEqual(why_tree([-1] * 9, 4), 1)
        # Five works need three turns on two benches, and then the chain of three below them.
        self.assertEqual(why_tree([-1, 0, 1, 2, 2, 2, 2, 2], 2), 4)

    def test_the_least_level_that_shows_the_turns(self):
        for behind, benches in drawn_floors():
            turns = len(tree_turns(behind, benches))
            level = why_tree(behind, benches)
            self.assertEqual(turns_shown(behind, benches, level), turns, (behind, benches))
            for less in range(level):
                self.assertLess(turns_shown(behind, benches, less), turns, (behind, benches))

    def test_refusals(self):
        for behind in REFUSED:
            with self.assertRaises(NoOrder):
                why_tree(behind, 2)


class NothingIsChanged(unittest.TestCase):

    def test_lists_handed_in_and_told(self):
        for behind in [[], [-1], CHAIN, [-1, 0, 0, 1, 1, 1, 3]]:
            look_at_lists(self, levels, list(behind))
            look_at_lists(self, tree_turns, list(behind), 2)
            look_at_lists(self, turns_shown, list(behind), 2, 1)
            look_at_lists(self, why_tree, list(behind), 2)

    def test_a_refusal_changes_nothing(self):
        for behind in REFUSED:
            before = list(behind)
            with self.assertRaises(NoOrder):
                tree_turns(behind, 2)
            self.assertEqual(behind, before)


if __name__ == "__main__":
    unittest.main()
