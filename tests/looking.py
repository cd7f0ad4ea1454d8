"""What several test files look at in the same way."""

import copy


def lists_in(value):
    """All lists within the value, itself too, also within tuples."""
    if not isinstance(value, (list, tuple)):
        return []
    found = [value] if isinstance(value, list) else []
    for inner in value:
        found.extend(lists_in(inner))
    return found


def look_at_lists(case, call, *handed):
    """Point 2 for one call: what is handed in stays as it is, and each list that is told is a new one."""
    before = copy.deepcopy(handed)
    lists = lists_in(handed)
    told = call(*handed)
    case.assertEqual(handed, before)
    case.assertTrue(all(one is other for one, other in zip(lists_in(handed), lists, strict=True)))
    kept = copy.deepcopy(told)
    own = lists_in(told)
    case.assertEqual(len({id(each) for each in own + lists}), len(own) + len(lists))
    for each in own:
        each.append(77)
        each.reverse()
    case.assertEqual(handed, before)
    case.assertEqual(call(*handed), kept)
    later = call(*handed)
    for each in lists:
        each.clear()
    case.assertEqual(later, kept)
