"""Names and trees.

A hole is a text and any other tree a tuple, so that the kind of a value tells which of the two it is. Kinds are
compared exactly: a thing of a kind made from tuples or texts could tell one thing now and another one later.
"""

LETTERS = "abcdefghijklmnopqrstuvwxyz"
LONGEST_NAME = 8
MOST_PARTS = 3


def is_name(thing):
    """Whether it is a NAME."""
    if type(thing) is not str or not 1 <= len(thing) <= LONGEST_NAME:
        return False
    return all(sign in LETTERS for sign in thing)


def is_full(thing):
    """Whether it is a full name."""
    if type(thing) is not str:
        return False
    names = thing.split(".")
    return len(names) == 2 and is_name(names[0]) and is_name(names[1])


def is_tree(thing):
    """Whether it is a tree."""
    left = [thing]
    while left:
        part = left.pop()
        if type(part) is tuple:
            if not 1 <= len(part) <= MOST_PARTS + 1 or not is_full(part[0]):
                return False
            left.extend(part[1:])
        elif not is_name(part):
            return False
    return True


def is_hole(tree):
    """Whether a tree is a hole."""
    return type(tree) is str


def is_form(thing):
    """Whether it is a tree without holes."""
    return is_tree(thing) and not holes_in(thing)


def line_of(full):
    """The LINE of a full name."""
    return full.split(".")[0]


def begin_alike(one, other):
    """Whether two trees, no holes, have one full name and as many parts."""
    return one[0] == other[0] and len(one) == len(other)


def trees_in(tree):
    """The list of all trees that stand in a tree, itself first, as they come from the left as written."""
    return _trees_met(tree, -1)


def trees_from_right(tree):
    """The list of all trees that stand in a tree, itself first, as they come from the right.

    Backwards, each tree stands behind its parts, and these from the left as written.
    """
    return _trees_met(tree, 1)


def _trees_met(tree, step):
    found = []
    left = [tree]
    while left:
        part = left.pop()
        found.append(part)
        if not is_hole(part):
            left.extend(part[1:][::step])
    return found


def holes_in(tree):
    """The tuple of a tree's holes, each once, as they first come from the left as written."""
    found = {}
    for part in trees_in(tree):
        if is_hole(part):
            found[part] = True
    return tuple(found)


def names_in(tree):
    """The tuple of a tree's full names from the left as written, as often as they come."""
    return tuple([part[0] for part in trees_in(tree) if not is_hole(part)])


def taken_off(made, many):
    """The last things of a list, so many, which are taken off it."""
    at = len(made) - many
    taken = made[at:]
    del made[at:]
    return taken


def built(tree, of_hole, of_name):
    """What is made of a tree from below: of_hole(hole), and of_name(full, what was made of the parts)."""
    made = []
    for part in reversed(trees_from_right(tree)):
        if is_hole(part):
            made.append(of_hole(part))
        else:
            made.append(of_name(part[0], taken_off(made, len(part) - 1)))
    return made[0]


def put_for(tree, by):
    """The tree with the trees of the pairs (hole, tree) in the places of these holes, all at once."""
    put = {hole: worth for hole, worth in by}
    return built(tree, lambda hole: put.get(hole, hole), lambda full, parts: (full, *parts))


def nth_name(number):
    """The name of this number, from 0: a, b, .., z, aa, ab, .., az, ba and on."""
    name = ""
    left = number + 1
    while left > 0:
        left, at = divmod(left - 1, len(LETTERS))
        name = LETTERS[at] + name
    return name


def renamed(tree):
    """The tree with its holes called a, b and on, as they first come."""
    return put_for(tree, [(hole, nth_name(number)) for number, hole in enumerate(holes_in(tree))])


def tree_at(tree, place):
    """The tree at a place of a tree, None where there is no such place."""
    if type(place) is not tuple:
        return None
    here = tree
    for number in place:
        if type(number) is not int or is_hole(here) or not 0 <= number < len(here) - 1:
            return None
        here = here[number + 1]
    return here
