"""The plainest ways to what the program tells, for the tests to hold its answers against. They may be slow."""


def read(text):
    """A tree of a text like l.p(x, l.a)."""
    full, bracket, rest = text.strip().partition("(")
    if not bracket:
        return (full,) if "." in full else full
    parts, open_now, start = [], 0, 0
    for at, sign in enumerate(rest):
        if sign == "(":
            open_now += 1
        elif sign == ")" and open_now:
            open_now -= 1
        elif not open_now and sign in ",)":
            parts.append(read(rest[start:at]))
            start = at + 1
    return (full, *parts)


def marked(tree, mark):
    """The tree with its holes as pairs (mark, hole)."""
    if isinstance(tree, str):
        return (mark, tree)
    return [tree[0]] + [marked(part, mark) for part in tree[1:]]


def walked(tree, put):
    while isinstance(tree, tuple) and tree in put:
        tree = put[tree]
    return tree


def stands_in(hole, tree, put):
    tree = walked(tree, put)
    if isinstance(tree, tuple):
        return tree == hole
    return any(stands_in(hole, part, put) for part in tree[1:])


def unify(one, other, put):
    one, other = walked(one, put), walked(other, put)
    if one == other:
        return True
    if isinstance(one, tuple) or isinstance(other, tuple):
        hole, tree = (one, other) if isinstance(one, tuple) else (other, one)
        if stands_in(hole, tree, put):
            return False
        put[hole] = tree
        return True
    if one[0] != other[0] or len(one) != len(other):
        return False
    return all(unify(first, second, put) for first, second in zip(one[1:], other[1:]))


def told(tree, put, called):
    tree = walked(tree, put)
    if isinstance(tree, tuple):
        if tree not in called:
            called[tree] = name_of(len(called))
        return called[tree]
    return (tree[0], *[told(part, put, called) for part in tree[1:]])


def name_of(number):
    letters = "abcdefghijklmnopqrstuvwxyz"
    if number < 26:
        return letters[number]
    return name_of(number // 26 - 1) + letters[number % 26]


def meet(one, other):
    put = {}
    one = marked(one, 0)
    if not unify(one, marked(other, 1), put):
        return None
    return told(one, put, {})


def is_number(thing, many):
    return type(thing) is int and 0 <= thing < many


def is_same_kind(thing, wanted):
    """Whether both are one, truths, lists and objects of other kinds never being what is wanted."""
    if type(thing) is not type(wanted):
        return False
    if isinstance(wanted, tuple):
        return len(thing) == len(wanted) and all(is_same_kind(a, b) for a, b in zip(thing, wanted))
    return thing == wanted


def stands(side, one, other):
    if not (type(side) is tuple and len(side) == 2 and is_number(side[0], 2)):
        return False
    trees = [one, other][side[0]:side[0] + 1]
    while trees:
        tree = trees.pop()
        if is_same_kind(side[1], tree):
            return True
        if type(tree) is tuple:
            trees += tree[1:]
    return False


def gives(one, other, rows, number):
    """Whether the row of this number is right by its ground, the rows ahead being so."""
    first, second, ground = rows[number]
    if type(ground) is not tuple or not ground or type(ground[0]) is not str:
        return False
    word, numbers = ground[0], ground[1:]
    if word == "start":
        return numbers == () and is_same_kind((first, second), ((0, one), (1, other)))
    if word not in ("part", "back", "over") or len(numbers) != (1 if word == "back" else 2):
        return False
    if not is_number(numbers[0], number):
        return False
    low, high, _ = rows[numbers[0]]
    if word == "back":
        return is_same_kind((first, second), (high, low))
    if word == "over":
        if not is_number(numbers[1], number):
            return False
        then = rows[numbers[1]]
        return then[0] == high and is_same_kind((first, second), (low, then[1]))
    one, other = low[1], high[1]
    if type(one) is str or type(other) is str or one[0] != other[0] or len(one) != len(other):
        return False
    if not is_number(numbers[1], len(one) - 1):
        return False
    at = numbers[1] + 1
    return is_same_kind((first, second), ((low[0], one[at]), (high[0], other[at])))


def within(hole, tree):
    return hole == tree if type(tree) is str else any(within(hole, part) for part in tree[1:])


def shows_never(one, other, thing):
    if type(thing) is not tuple or len(thing) != 2 or type(thing[0]) is not tuple:
        return False
    rows, end = thing
    for number, row in enumerate(rows):
        if type(row) is not tuple or len(row) != 3:
            return False
        if not stands(row[0], one, other) or not stands(row[1], one, other):
            return False
        if not gives(one, other, rows, number):
            return False
    if type(end) is not tuple or len(end) != 2 or type(end[0]) is not str:
        return False
    if end[0] == "clash" and is_number(end[1], len(rows)):
        (_, low), (_, high), _ = rows[end[1]]
        return type(low) is tuple and type(high) is tuple and (low[0] != high[0] or len(low) != len(high))
    if end[0] != "ring" or type(end[1]) is not tuple or not end[1]:
        return False
    if not all(is_number(number, len(rows)) for number in end[1]):
        return False
    ring = [rows[number] for number in end[1]]
    for at, (first, second, _) in enumerate(ring):
        then = ring[(at + 1) % len(ring)][0]
        if type(first[1]) is not str or type(second[1]) is str:
            return False
        if then[0] != second[0] or type(then[1]) is not str or not within(then[1], second[1]):
            return False
    return True
