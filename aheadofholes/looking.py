"""In which order a head is looked at."""
from aheadofholes.trees import is_hole


def looked(lore, head):
    """The steps (place, symbol) of looking at a head of the lore, the last one at its first hole where it has any."""
    words, verbs = lore
    orders = {told[0]: told[1] for told in words + verbs}
    wide = _way_of(verbs, head[0]) == "wide"
    steps = []
    waiting = [((), head)]
    while waiting:
        place, tree = waiting.pop(0)
        if is_hole(tree):
            steps.append((place, tree))
            break
        steps.append((place, tree[0]))
        parts = [((*place, number), tree[number + 1]) for number in orders[tree[0]]]
        # What waits is a queue where looking is wide, and a pile where it is deep.
        waiting = waiting + parts if wide else parts + waiting
    return tuple(steps)


def _way_of(verbs, full):
    return {verb[0]: verb[2] for verb in verbs}[full]
