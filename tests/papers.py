"""Papers for the tests: right ones made by hand, and ones with one thing otherwise."""
from tests.reference import read
from tests.samples import Alike, Touchy

X, Y, SX, SY = "x", "y", ("l.s", "x"), ("l.s", "y")


def hand_made():
    """(one, other, paper) that are right, made otherwise than never makes them."""
    one, other = read("l.v(x, x)"), read("l.v(y, l.s(y))")
    start = ((0, one), (1, other), ("start",))
    first = ((0, X), (1, Y), ("part", 0, 0))
    second = ((0, X), (1, SY), ("part", 0, 1))
    back = ((1, Y), (0, X), ("back", 1))
    over = ((1, Y), (1, SY), ("over", 3, 2))
    rows = (start, first, second, back, over)
    spare = (
        ((1, other), (0, one), ("back", 0)),
        ((0, one), (0, one), ("over", 0, 5)),
        ((0, X), (0, X), ("part", 6, 1)),
        ((0, X), (1, SY), ("over", 7, 2)),
        ((1, other), (1, other), ("over", 5, 0)),
        ((1, Y), (1, Y), ("part", 10 - 1, 0)),
        start,
    )
    found = [
        (one, other, (rows, ("ring", (4,)))),
        (one, other, (rows, ("ring", (4, 4, 4)))),
        (one, other, (rows + spare, ("ring", (4,)))),
        (one, other, ((start,) + rows[:1] + shifted(rows[1:]), ("ring", (5,)))),
    ]
    one, other = read("l.v(x, y, l.p(x, y))"), read("l.v(l.s(q), l.s(r), l.p(r, q))")
    rows = (
        ((0, one), (1, other), ("start",)),
        ((0, X), (1, ("l.s", "q")), ("part", 0, 0)),
        ((0, Y), (1, ("l.s", "r")), ("part", 0, 1)),
        ((0, ("l.p", X, Y)), (1, ("l.p", "r", "q")), ("part", 0, 2)),
        ((0, X), (1, "r"), ("part", 3, 0)),
        ((0, Y), (1, "q"), ("part", 3, 1)),
        ((1, "r"), (0, X), ("back", 4)),
        ((1, "q"), (0, Y), ("back", 5)),
        ((1, "r"), (1, ("l.s", "q")), ("over", 6, 1)),
        ((1, "q"), (1, ("l.s", "r")), ("over", 7, 2)),
    )
    found += [(one, other, (rows, ("ring", numbers))) for numbers in [(8, 9), (9, 8), (8, 9, 8, 9), (9, 8, 9, 8, 9, 8)]]
    one, other = read("l.v(x, x)"), read("l.v(l.a, l.b(y))")
    rows = (
        ((0, one), (1, other), ("start",)),
        ((0, X), (1, ("l.a",)), ("part", 0, 0)),
        ((0, X), (1, ("l.b", Y)), ("part", 0, 1)),
        ((1, ("l.a",)), (0, X), ("back", 1)),
        ((1, ("l.a",)), (1, ("l.b", Y)), ("over", 3, 2)),
    )
    found += [(one, other, (rows, ("clash", 4)))]
    one, other = read("l.v(x, l.s(l.s(x)))"), read("l.v(l.s(y), l.s(y))")
    rows = (
        ((0, one), (1, other), ("start",)),
        ((0, X), (1, SY), ("part", 0, 0)),
        ((0, ("l.s", SX)), (1, SY), ("part", 0, 1)),
        ((1, SY), (0, ("l.s", SX)), ("back", 2)),
        ((0, X), (0, ("l.s", SX)), ("over", 1, 3)),
    )
    return found + [(one, other, (rows, ("ring", (4,))))]


def shifted(rows):
    """The rows as they stand one place behind, all that they name being so, too."""
    found = []
    for first, second, ground in rows:
        if ground[0] == "part":
            ground = ("part", ground[1] + 1, ground[2])
        else:
            ground = (ground[0], *[number + 1 for number in ground[1:]])
        found.append((first, second, ground))
    return tuple(found)


def others_for(thing):
    """What may come into the place of something in a paper."""
    found = [None, True, False, 0, 1, -1, (), "", "x", "start", "clash", "ring", ("l.a",), [], Alike(), Touchy()]
    if type(thing) is int:
        found += [thing + 1, thing - 1, thing + 2, -thing, bool(thing), str(thing), 10 ** 4000, (thing,)]
    if type(thing) is str:
        found += [thing + "x", thing[:-1], thing.upper(), "y", "part", "back", "over", (thing,), thing.encode()]
    if type(thing) is tuple:
        found += [list(thing), thing[:-1], thing[1:], thing + thing[:1], thing + (0,), thing + (None,), thing[::-1],
                  (thing,), str(thing)]
        found += [thing[:at] + (thing[at + 1], thing[at]) + thing[at + 2:] for at in range(len(thing) - 1)]
        found += [thing[:at] + thing[at + 1:] for at in range(len(thing))]
    return found


def with_one_otherwise(thing):
    """All things that come of this one by something else in one place of it."""
    found = others_for(thing)
    if type(thing) is tuple:
        for at, inner in enumerate(thing):
            found += [thing[:at] + (made,) + thing[at + 1:] for made in with_one_otherwise(inner)]
    return found
