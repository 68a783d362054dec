"""What several tests hand in: things of any kind, and trees made by a seeded chance."""
import random

NAMES = ["l.a", "l.b", "m.s", "m.p", "k.q"]
HOLES = ["x", "y", "z", "a", "b"]
MANY = {"l.a": 0, "l.b": 0, "m.s": 1, "m.p": 2, "k.q": 3}


class Alike:
    """Says of everything that it is the same."""

    def __eq__(self, other):
        return True

    def __hash__(self):
        return 1


class Touchy:
    """Can't be compared, measured or asked for anything."""

    def __eq__(self, other):
        raise RuntimeError

    def __len__(self):
        raise RuntimeError

    def __iter__(self):
        raise RuntimeError

    def __bool__(self):
        raise RuntimeError

    __hash__ = None


def deep(kind, many, inner):
    """inner within many tuples or lists, each with a full name ahead."""
    made = inner
    for _ in range(many):
        made = kind(["l.s", made])
    return made


def things():
    """Things of many kinds, none of which is a tree, a place but (), a paper, a word, a verb or lore but ((), ())."""
    return [
        None, True, False, 0, 1, -1, 7, 10 ** 4000, "", " ", "abcdefghi", "A", "x y", "l.", ".l", "a.b.c", "l.a()",
        b"", b"x", b"l.a", bytearray(b"x"), [], ["l.a"], ["x"], [[]], {}, {"x": 1}, {"l.a": ()}, set(), {"x"},
        frozenset(), frozenset(["x"]), object(), int, str, tuple, len, lambda: 0, range(3), Ellipsis, NotImplemented,
        Alike(), Touchy(), (), ((),), (None,), (True,), (0,), (("l.a",),), ("x",), ("l.a", None), ("l.a", True),
        ("l.a", 0), ("l.a", b"x"), ("l.a", ["l.a"]), ("l.a", Alike()), ("l.a", Touchy()), (Alike(),), (Touchy(),),
        (Alike(), Alike()), (Touchy(), Touchy()), ("l.a", "x", "y", "z", "w"), ("l.a", ("l.b", ("l", "x"))),
        deep(tuple, 29, None), deep(tuple, 29, ["x"]), deep(tuple, 29, ("x",)), deep(list, 30, "x"),
        deep(tuple, 15, deep(list, 15, "x")), [deep(tuple, 29, "x")], iter("x"), (name for name in "x"),
    ]


def chance(seed):
    return random.Random(seed)


def some_tree(dice, depth, holes=HOLES, names=NAMES):
    """A tree nested at most depth deep."""
    fulls = [name for name in names if depth > 1 or MANY[name] == 0]
    if holes and (not fulls or dice.random() < 0.3):
        return dice.choice(holes)
    full = dice.choice(fulls)
    return (full, *[some_tree(dice, depth - 1, holes, names) for _ in range(MANY[full])])


def some_head(dice, depth, holes=HOLES, names=NAMES):
    while True:
        tree = some_tree(dice, depth, holes, names)
        if not isinstance(tree, str):
            return tree


def some_form(dice, depth):
    return some_tree(dice, depth, [])


def tree_trees(tree):
    """All trees that stand in a tree."""
    found = [tree]
    if not isinstance(tree, str):
        for part in tree[1:]:
            found += tree_trees(part)
    return found


def forms_up_to(depth, names=NAMES):
    """All forms of these names nested at most depth deep."""
    found = []
    for _ in range(depth):
        made = []
        for name in names:
            rows = [()]
            for _ in range(MANY[name]):
                rows = [row + (part,) for row in rows for part in found]
            made += [(name, *row) for row in rows]
        found = made
    return found
