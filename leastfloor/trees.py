"""Works of one turn each, in trees: a list tells for each work the one that has to be later, or -1."""

from leastfloor.errors import NoOrder
from leastfloor.wholes import divided_up


def levels(behind):
    """For each work its level: 1 where nothing has to be later, else one more than that of the later work."""
    for later in behind:
        if not -1 <= later < len(behind):
            raise NoOrder(f"there is no work {later}")
    return [level_of(behind, work) for work in range(len(behind))]


def level_of(behind, work):
    """The level of one work."""
    level = 1
    later = behind[work]
    while later != -1:
        level += 1
        # A chain that has more works than there are has one of them twice.
        if level > len(behind):
            raise NoOrder(f"what has to be later than {work} leads back to a work")
        later = behind[later]
    return level


def tree_turns(behind, benches):
    """Turns of works, rising: in each one, of the works that can be done, those with the highest levels."""
    heights = levels(behind)
    waits = [behind.count(work) for work in range(len(behind))]
    left = list(range(len(behind)))
    turns = []
    while left:
        ready = [work for work in left if waits[work] == 0]
        turn = sorted(sorted(ready, key=lambda work: (-heights[work], work))[:benches])
        for work in turn:
            if behind[work] != -1:
                waits[behind[work]] -= 1
        left = [work for work in left if work not in turn]
        turns.append(turn)
    return turns


def turns_shown(behind, benches, level):
    """How many turns, by the works of this level and higher ones, each plan has at least."""
    return shown_by_level(levels(behind), benches, level)


def shown_by_level(heights, benches, level):
    """The turns that works of this level and higher ones, as these heights tell them, need at least."""
    high = len([height for height in heights if height >= level])
    if level < 1 or high == 0:
        return 0
    return divided_up(high, benches) + level - 1


def why_tree(behind, benches):
    """The least level that shows the number of turns; 0 where there are no works."""
    turns = len(tree_turns(behind, benches))
    heights = levels(behind)
    level = 0
    while shown_by_level(heights, benches, level) < turns:
        level += 1
    return level
