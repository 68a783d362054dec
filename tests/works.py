"""Books whose rows make asks, and forms of just so many names, for the tests of working out."""
from tests.books import edition, some_order, some_tree

ROOTS = edition(
    "l", 1, "", "a, b, nil, p 1 0, s 0, w 2 0 1",
    "add 0 1 deep, dbl 0 1 deep, dup 0 wide, eight 0 deep, ever 0 deep, f 0 deep, four 0 deep, g 0 deep, grow 0 deep,"
    " h 0 deep, id 0 deep, lost 0 deep, mix 2 1 0 wide, no 0 deep, now deep, on 0 deep, one 0 deep, pile 0 deep,"
    " same 0 1 deep, thin 0 deep, two 0 deep, wide 0 deep", "", """
    l.add(l.nil, x) = x; l.add(l.s(x), y) = l.s(l.add(x, y));
    l.dbl(l.nil, x) = x; l.dbl(l.s(x), y) = l.dbl(x, l.p(y, y));
    l.dup(x) = l.p(x, x); l.four(x) = l.dup(l.dup(x)); l.eight(x) = l.dup(l.four(x));
    l.ever(x) = l.ever(x); l.grow(x) = l.grow(l.s(x)); l.pile(x) = l.s(l.pile(x));
    l.f(x) = l.a; l.g(x) = l.b; l.h(x) = l.p(l.f(x), l.g(x)); l.id(x) = x; l.now = l.id(l.a); l.one(x) = l.s(x);
    l.two(x) = l.s(l.s(x)); l.thin(x) = l.w(l.f(x), l.f(x), l.f(x)); l.wide(x) = l.w(x, x, x);
    l.mix(x, y, z) = l.w(l.f(l.g(y)), l.p(l.h(l.g(l.f(x))), z), l.id(l.p(l.f(l.a), l.g(l.b))));
    l.on(l.nil) = l.nil; l.on(l.s(x)) = l.p(l.on(x), l.on(x));
    l.lost(l.a) = l.p(l.f(l.a), l.s(l.no(l.g(l.nil)))); l.lost(l.b) = l.p(l.no(l.f(l.b)), l.no(l.a));
    l.same(x, x) = x
    """)
MORE = edition("m", 1, "l 1", "em, ex 0", "do 0 deep, of 0 deep", "", """
    l.add(m.ex(x), y) = m.do(l.add(x, y)); m.do(x) = m.ex(l.id(x)); l.f(m.em) = m.of(m.em); l.f(m.ex(x)) = l.g(m.of(x));
    m.of(m.em) = l.h(l.a); m.of(m.ex(x)) = l.f(l.f(x))
    """)
LATE = edition("l", 2, "m 1", "late", "", "", """
    l.id(l.late) = l.now; l.f(l.late) = l.f(l.p(l.late, l.late)); l.add(l.late, x) = l.dup(x)
    """)
WORK = (ROOTS, MORE, LATE)


def tower(deep, end=("l.nil",)):
    """A form nested so deep, of as many names."""
    form = end
    for _ in range(deep - 1):
        form = ("l.s", form)
    return form


def bush(many):
    """A form of so many names, nested no deeper than it must be."""
    if many <= 2:
        return tower(many)
    return ("l.p", bush((many - 1) // 2), bush(many - 1 - (many - 1) // 2))


def some_work(dice):
    """A book of one or two editions whose answers make asks, by chance."""
    words = [(f"l.{name}", some_order(dice, 2)) for name in "abc"] + [("l.nil", ())]
    verbs = [(f"l.{name}", some_order(dice, 2), dice.choice(["deep", "wide"])) for name in "tuvwx"]
    first = ("l", 1, (), tuple(words), tuple(verbs), (), work_rows(dice, verbs, words, verbs))
    words, verbs = words + [("m.em", ()), ("m.ex", (0,))], [("m.do", (0,), "deep")] + verbs
    second = ("m", 1, (("l", 1),), tuple(words[4:]), tuple(verbs[:1]), (), work_rows(dice, verbs[:1], words, verbs))
    return dice.choice([(first,), (first, second)])


def work_rows(dice, asked, words, verbs):
    """Rows whose heads are of the verbs asked; most of their asks are of verbs that stand behind these, so that they end."""
    rows = []
    for at, (verb, order, _) in enumerate(asked):
        wide = (verb, *"xyz"[:len(order)])
        narrow = (verb, *[some_tree(dice, words, 2, 0.5) for _ in order])
        for head in dice.choice([[wide], [narrow, wide], [narrow, wide], [narrow]]):
            later = verbs if dice.random() < 0.2 else verbs[at + 1:]
            holes = [tree for tree in "xyz" if f"'{tree}'" in str(head)]
            rows.append((head, work_tree(dice, words, later, 4, holes)))
    return tuple(rows)


def work_tree(dice, words, verbs, depth, holes):
    """A tree of words, asks and these holes."""
    if holes and dice.random() < (0.2 if depth > 1 else 0.8):
        return dice.choice(holes)
    told = [row for row in words + verbs * 2 if depth > 1 or not row[1]]
    full, order, *_ = dice.choice(told or words[-1:])
    return (full, *[work_tree(dice, words, verbs, depth - 1, holes) for _ in order])


def some_asked(dice, book):
    """Forms of all verbs of the book, on trees of its words."""
    words = [word for made in book for word in made[3]]
    return [(verb, *[some_form_of(dice, words, 3) for _ in order]) for made in book for verb, order, _ in made[4]]


def some_form_of(dice, words, depth):
    full, order = dice.choice([word for word in words if depth > 1 or not word[1]])
    return (full, *[some_form_of(dice, words, depth - 1) for _ in order])
