"""Words, verbs and lore."""
from aheadofholes.trees import MOST_PARTS, is_full, is_hole, is_tree, trees_in

WAYS = ("deep", "wide")


def is_word(thing):
    """Whether it is a word: (full, order)."""
    return type(thing) is tuple and len(thing) == 2 and is_full(thing[0]) and _is_order(thing[1])


def is_verb(thing):
    """Whether it is a verb: (full, order, way)."""
    if type(thing) is not tuple or len(thing) != 3:
        return False
    full, order, way = thing
    return is_full(full) and _is_order(order) and type(way) is str and way in WAYS


def _is_order(thing):
    if type(thing) is not tuple or len(thing) > MOST_PARTS:
        return False
    return all([type(number) is int for number in thing]) and sorted(thing) == list(range(len(thing)))


def is_lore(thing):
    """Whether it is lore: (words, verbs), both rising, all of unlike full names."""
    if type(thing) is not tuple or len(thing) != 2:
        return False
    words, verbs = thing
    if not are_rising(words, is_word) or not are_rising(verbs, is_verb):
        return False
    told = parts_by_name(words)
    return not any([verb[0] in told for verb in verbs])


def are_rising(things, is_one):
    """Whether it is a tuple of such things that rises with full names that are all unlike."""
    if type(things) is not tuple or not all([is_one(thing) for thing in things]):
        return False
    return all([one[0] < other[0] for one, other in zip(things, things[1:])])


def parts_by_name(told):
    """How many parts each of these words, or of these verbs, has, by its full name."""
    return {row[0]: len(row[1]) for row in told}


def is_of(lore, head):
    """Whether a head has the name of a verb of the lore, and within it those of words, with as many parts."""
    words, verbs = lore
    if not is_tree(head) or is_hole(head) or not has_parts(head, parts_by_name(verbs)):
        return False
    many = parts_by_name(words)
    return all([is_hole(tree) or has_parts(tree, many) for tree in trees_in(head)[1:]])


def has_parts(tree, many):
    """Whether a tree, no hole, has a full name of these, and as many parts as they tell of it."""
    return many.get(tree[0]) == len(tree) - 1
