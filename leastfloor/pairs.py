"""Works of one turn each, in any order, at two benches: turns by marks, and blocks that show that none are saved."""

from leastfloor.orders import ahead_of, marks
from leastfloor.wholes import all_in, divided_up

BENCHES = 2


def pair_turns(many, needs):
    """Turns of one or two works: in each, of the works that can be done, those with the greatest marks."""
    given = marks(many, needs)
    ahead = ahead_of(many, needs)
    left = list(range(many))
    turns = []
    while left:
        ready = [work for work in left if not any([work in ahead[first] for first in left])]
        turn = sorted(ready, key=lambda work: given[work], reverse=True)[:BENCHES]
        left = [work for work in left if work not in turn]
        turns.append(turn)
    return turns


def why_pairs(many, needs):
    """Blocks of works, each work ahead of all of the next block, that need as many turns as there are."""
    given = marks(many, needs)
    turns = pair_turns(many, needs)
    blocks = []
    last = len(turns) - 1
    # In a turn whose second work has a lesser mark than the first work of a later one, nothing else could be done:
    # so its first work is ahead of that work, and of all between. The turns are cut into blocks there.
    while last >= 0:
        cut = last_cut(turns, given, last)
        blocks.append(block_between(turns, cut, last))
        last = cut
    blocks.reverse()
    return blocks


def last_cut(turns, given, last):
    """The last turn ahead of this one without a second work of a greater mark than this one's first; -1 if none is."""
    cut = last - 1
    while cut >= 0 and least_mark(turns[cut], given) > given[turns[last][0]]:
        cut -= 1
    return cut


def least_mark(turn, given):
    """The mark of the turn's second work, 0 where it has none."""
    if len(turn) < BENCHES:
        return 0
    return given[turn[1]]


def block_between(turns, cut, last):
    """All works of the turns behind the cut and ahead of the last one, and the first work of the last one."""
    block = []
    for turn in turns[cut + 1:last]:
        block.extend(turn)
    block.append(turns[last][0])
    return block


def turns_needed(blocks):
    """How many turns the blocks need, each of them by itself."""
    return sum([divided_up(len(block), BENCHES) for block in blocks])


def are_blocks(many, needs, lists):
    """Whether the lists are blocks of works, none twice, each work of a block ahead of each one of the next."""
    works = all_in(lists)
    if len(set(works)) != len(works) or not all([0 <= work < many for work in works]):
        return False
    if not all([len(block) > 0 for block in lists]):
        return False
    ahead = ahead_of(many, needs)
    return all([all_ahead(ahead, block, later) for block, later in zip(lists, lists[1:])])


def all_ahead(ahead, block, later):
    """Whether each work of the block is ahead of each work of the later one."""
    return all([all([work in ahead[first] for work in later]) for first in block])
