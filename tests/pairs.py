"""Pairs of heads that are hard to hold against one another, for the tests of meeting and of papers."""
from aheadofholes.trees import names_in
from tests.reference import name_of
from tests.samples import chance, some_head

SMALL = ["l.a", "m.s", "m.p"]


def chain(parts, end=("l.nil",)):
    tree = end
    for part in reversed(parts):
        tree = ("l.cons", part, tree)
    return tree


def doubling(many):
    """Heads the meeting of which has two to the power of many full names or so: each hole is twice the one ahead."""
    holes = ["h" + name_of(number) for number in range(many)]
    twice = [("l.p", hole, hole) for hole in holes]
    return (("l.v", chain(holes[1:] + ["z"]), chain(holes[1:] + ["z"])),
            ("l.v", chain(holes[1:] + ["z"]), chain(twice)))


def doubling_clash(many):
    """The same, and at the very end two words that clash."""
    one, other = doubling(many)
    return (one + (("l.p", "z", ("l.a",)),), other + (("l.p", ("l.b",), ("l.a",)),))


def doubled_unlike(many):
    """Two holes that double alike, from two words that are unlike, and have to be one at the end."""
    ones = ["o" + name_of(number) for number in range(many)]
    others = ["u" + name_of(number) for number in range(many)]
    one = chain([("l.q", a, b) for a, b in zip(ones[1:], others[1:])], ("l.q", "end", "end"))
    twice = [("l.q", ("l.p", a, a), ("l.p", b, b)) for a, b in zip(ones, others)]
    other = chain(twice[:-1], ("l.q", twice[-1][1], twice[-1][2]))
    start = ("l.q", ones[0], others[0])
    word = ("l.q", ("l.a",), ("l.b",))
    links = chain([("l.q", a, b) for a, b in zip(ones[1:], others[1:])])
    return (("l.v", word, one, links), ("l.v", start, other, links))


def ring(many):
    """Holes of one come to trees of other, in which stand holes that come to trees of one, and so around."""
    ones = [name_of(number) for number in range(many)]
    others = [name_of(number) for number in range(many)]
    first = chain(ones + [("l.s", hole) for hole in ones[1:] + ones[:1]])
    second = chain([("l.s", hole) for hole in others] + others)
    return (("l.v", first), ("l.v", second))


def open_chain(many):
    """The same, but the last one comes to a word: the heads meet, nested deep."""
    ones = [name_of(number) for number in range(many)]
    others = [name_of(number) for number in range(many)]
    first = chain(ones + [("l.s", hole) for hole in ones[1:]] + [("l.end",)])
    second = chain([("l.s", hole) for hole in others] + others)
    return (("l.v", first), ("l.v", second))


def holes_alone(many):
    """A ring of holes, none of which comes to a tree: the heads meet."""
    ones = [name_of(number) for number in range(many)]
    return (("l.v", chain(ones + ones)), ("l.v", chain(ones + ones[1:] + ones[:1])))


def wide(seed, most_holes):
    """A head of some sixty names, with many holes."""
    dice = chance(seed)
    holes = [name_of(number) for number in range(most_holes)]
    layer = [("l.w", *[dice.choice(holes) for _ in range(3)]) for _ in range(40)]
    while len(layer) > 1:
        layer = [("l.w", *layer[at:at + 3]) for at in range(0, len(layer), 3)]
    return layer[0]


def some_pairs(seed, many, depth=4, names=None, holes=("x", "y", "z")):
    dice = chance(seed)
    names = names or ["l.a", "l.b", "m.s", "m.p", "k.q"]
    return [(some_head(dice, depth, list(holes), names), some_head(dice, depth, list(holes), names))
            for _ in range(many)]


def large_pairs(seed, many):
    """Heads of some sixty names at most, with many holes."""
    dice = chance(seed)
    holes = [name_of(number) for number in range(150)]
    found = []
    while len(found) < many:
        pair = [some_head(dice, 6, holes, ["m.s", "m.p", "k.q"]) for _ in range(2)]
        sizes = [len(names_in(head)) for head in pair]
        if max(sizes) <= 60 and min(sizes) >= 15:
            found.append(tuple(pair))
    return found


def hard_pairs():
    """Pairs of all these sorts, some of which meet."""
    found = some_pairs(31, 300) + some_pairs(32, 300, 4, SMALL) + some_pairs(33, 200, 5, ["l.a", "m.p"], ("x", "y"))
    found += some_pairs(34, 300, 4, ["m.p"]) + some_pairs(35, 100, 6, ["m.p"]) + some_pairs(36, 200, 4, ["m.p", "k.q"])
    found += [doubling(many) for many in (1, 2, 5, 8)] + [doubling_clash(many) for many in (2, 5, 7)]
    found += [doubled_unlike(many) for many in (2, 5, 6)] + [holes_alone(many) for many in (1, 2, 7)]
    found += [ring(many) for many in (1, 2, 3, 7, 14)] + [open_chain(many) for many in (1, 2, 7, 14)]
    found += [(wide(seed, holes), wide(seed + 1, holes)) for seed, holes in [(1, 120), (3, 200), (5, 60), (7, 25), (9, 8)]]
    return found + large_pairs(37, 60)
