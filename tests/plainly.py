"""The plainest ways to what is told of editions and books, word by word as the document tells it. They may be slow."""
import re

from tests.reference import is_number, meet, read


def is_text(thing, pattern):
    return type(thing) is str and re.fullmatch(pattern, thing) is not None and "\n" not in thing


def is_name(thing):
    return is_text(thing, "[a-z]{1,8}")


def is_full(thing):
    return is_text(thing, r"[a-z]{1,8}\.[a-z]{1,8}")


def is_tree(thing):
    if type(thing) is not tuple:
        return is_name(thing)
    return 1 <= len(thing) <= 4 and is_full(thing[0]) and all(is_tree(inner) for inner in thing[1:])


def holes(tree):
    return {tree} if type(tree) is str else {hole for inner in tree[1:] for hole in holes(inner)}


def is_each(thing, *kinds):
    return type(thing) is tuple and len(thing) == len(kinds) and all(kind(inner) for kind, inner in zip(kinds, thing))


def is_every(thing, kind):
    return type(thing) is tuple and all(kind(inner) for inner in thing)


def rises(thing):
    return list(thing) == sorted(set(thing))


def is_order(thing):
    return is_every(thing, lambda number: is_number(number, 3)) and sorted(thing) == list(range(len(thing)))


def is_key(thing):
    return is_each(thing, is_name, lambda number: type(number) is int and number > 0)


def is_edition(thing):
    if type(thing) is not tuple or len(thing) != 7:
        return False
    line, number, sees, words, verbs, gives, rows = thing
    if not is_key((line, number)) or not is_every(sees, is_key) or not rises(sees):
        return False
    if not is_every(words, lambda word: is_each(word, is_full, is_order)) or not rises(words):
        return False
    ways = lambda way: type(way) is str and way in ("deep", "wide")
    if not is_every(verbs, lambda verb: is_each(verb, is_full, is_order, ways)) or not rises(verbs):
        return False
    names = [told[0] for told in words + verbs]
    if len(names) != len(set(names)) or any(name.split(".")[0] != line for name in names):
        return False
    if not is_every(gives, lambda pair: is_each(pair, is_full, is_name)) or not rises(gives):
        return False
    if len(gives) != len(dict(gives)):
        return False
    return is_every(rows, lambda row: is_each(row, lambda head: is_tree(head) and type(head) is tuple, is_tree))


def keys_seen(book, edition):
    """What it sees, and what those see, till nothing comes to it any more."""
    by_key = {other[:2]: other for other in book}
    found, before = [edition], 0
    while len(found) > before:
        before = len(found)
        wanted = set()
        for other in found:
            wanted |= set(other[2]) | {(other[0], number) for number in range(1, other[1])}
        found = [edition] + [by_key[key] for key in wanted]
    return {other[:2] for other in found[1:]}


def sight(book, edition):
    wanted = keys_seen(book, edition)
    return tuple(other for other in book if other[:2] in wanted)


def are_strangers(book, one, other):
    return one[:2] not in keys_seen(book, other) and other[:2] not in keys_seen(book, one)


def lore_of(book, edition):
    told = sight(book, edition) + (edition,)
    return tuple(tuple(sorted(set().union(*[set(other[at]) for other in told]))) for at in (3, 4))


def keeper(book, edition, verb):
    gifts = [dict(other[5])[verb] for other in sight(book, edition) if verb in dict(other[5])]
    return (verb.split(".")[:1] + gifts)[-1]


def orders(lore):
    return {told[0]: told[1] for told in lore[0] + lore[1]}


def met_deep(lore, place, tree):
    """All steps of looking deep, as if holes didn't end it."""
    if type(tree) is str:
        return [(place, tree)]
    found = [(place, tree[0])]
    for number in orders(lore)[tree[0]]:
        found += met_deep(lore, place + (number,), tree[number + 1])
    return found


def met_wide(lore, head):
    """All steps of looking wide, row by row, as if holes didn't end it."""
    found, row = [], [((), head)]
    while row:
        found += [(place, tree if type(tree) is str else tree[0]) for place, tree in row]
        row = [(place + (number,), tree[number + 1]) for place, tree in row if type(tree) is not str
               for number in orders(lore)[tree[0]]]
    return found


def looked(lore, head):
    way = [verb[2] for verb in lore[1] if verb[0] == head[0]][0]
    steps = met_deep(lore, (), head) if way == "deep" else met_wide(lore, head)
    ends = [at for at, (_, symbol) in enumerate(steps) if "." not in symbol]
    return tuple(steps[:ends[0] + 1] if ends else steps)


def fits(head, form):
    put = {}

    def fit(one, other):
        if type(one) is str:
            return put.setdefault(one, other) == other
        return one[0] == other[0] and len(one) == len(other) and all(fit(a, b) for a, b in zip(one[1:], other[1:]))

    return fit(head, form)


def who(book, form):
    return tuple((edition[:2], number) for edition in book for number in range(len(edition[6]))
                 if fits(edition[6][number][0], form))


def answers(book, form):
    """By the words: of the edition that sees all others that have such a row the first one."""
    found = who(book, form)
    having = [edition for edition in book if edition[:2] in {key for key, _ in found}]
    tops = [edition for edition in having
            if all(other[:2] in keys_seen(book, edition) for other in having if other != edition)]
    if not found:
        return None
    assert len(tops) == 1, form
    return min(row for row in found if row[0] == tops[0][:2])


def fate(book, edition, number):
    head = edition[6][number][0]
    steps = looked(lore_of(book, edition), head)
    own = {told[0] for told in edition[3] + edition[4]}
    for step, (_, symbol) in enumerate(steps):
        if symbol in own:
            return ("own", step)
    if holes(head):
        return ("holed", len(steps) - 1)
    found = answers(sight(book, edition), head)
    if found:
        return ("answered",) + found
    return ("home",) if keeper(book, edition, head[0]) == edition[0] else ("stray",)


def names_due(tree, own, within):
    """The full names of a tree that aren't due, from the left: own tells what may stand at its top, within what below."""
    if type(tree) is str:
        return []
    found = [] if (tree[0], len(tree) - 1) in own else [tree[0]]
    for inner in tree[1:]:
        found += names_due(inner, within, within)
    return found


def unheard(book, edition):
    words, verbs = [{(told[0], len(told[1])) for told in row} for row in lore_of(book, edition)]
    found = [verb for verb, _ in edition[5] if verb not in dict(verbs)]
    for head, answer in edition[6]:
        found += names_due(head, verbs, words) + names_due(answer, words | verbs, words | verbs)
    return found


def refusals(book, edition):
    """All that is due, one behind another in the order that the document names."""
    if not is_edition(edition):
        yield ("NoEdition",)
        return
    line, number, sees, words, verbs, gives, rows = edition
    out = [other[:2] for other in book]
    if number != len([key for key in out if key[0] == line]) + 1:
        yield ("NotNext", number)
    for key in sees:
        if key not in out:
            yield ("NotOut", key)
    ahead = [told[0] for other in book if other[0] == line for told in other[3] + other[4]]
    for told in words + verbs:
        if told[0] in ahead:
            yield ("Told", told[0])
    for name in unheard(book, edition):
        yield ("Unheard", name)
    for verb, _ in gives:
        if keeper(book, edition, verb) != line:
            yield ("NotKept", verb)
    for at, (head, answer) in enumerate(rows):
        if holes(answer) - holes(head):
            yield ("Loose", at)
    for at in range(len(rows)):
        word, *told = fate(book, edition, at)
        if word in ("holed", "answered", "stray"):
            yield (word.capitalize(), at, *told[:1])


def refusal(book, edition):
    return next(refusals(book, edition), None)


def is_book(thing):
    return type(thing) is tuple and all(refusal(thing[:at], edition) is None for at, edition in enumerate(thing))


def is_of(lore, form):
    words, verbs = [{(told[0], len(told[1])) for told in row} for row in lore]
    return not names_due(form, verbs, words)


def shows_stranger(book, edition, number, thing):
    if not is_each(thing, is_edition, lambda form: is_tree(form) and not holes(form)):
        return False
    other, form = thing
    seen = sight(book, edition)
    if other[0] == edition[0] or refusal(seen, other) is not None:
        return False
    told = seen + (edition, other)
    lore = tuple(tuple(sorted(set().union(*[set(row[at]) for row in told]))) for at in (3, 4))
    return is_of(lore, form) and fits(edition[6][number][0], form) and bool(who((other,), form))


def places(tree, place=()):
    """All places of a tree, from the left as written."""
    if type(tree) is str:
        return [place]
    return [place] + [inner for at, part in enumerate(tree[1:]) for inner in places(part, place + (at,))]


def at_place(tree, place):
    return at_place(tree[place[0] + 1], place[1:]) if place else tree


def put_at(tree, place, worth):
    if not place:
        return worth
    at = place[0] + 1
    return tree[:at] + (put_at(tree[at], place[1:], worth),) + tree[at + 1:]


def put_for(tree, put):
    return put[tree] if type(tree) is str else (tree[0], *[put_for(inner, put) for inner in tree[1:]])


def puts(head, form):
    """What stands in the form where the head's holes stand."""
    return {at_place(head, place): at_place(form, place) for place in places(head) if type(at_place(head, place)) is str}


def told_by(row, form):
    """What a row tells of a form that its head matches, its asks not worked out."""
    return put_for(row[1], puts(row[0], form))


def many_names(form):
    return 1 + sum(many_names(inner) for inner in form[1:])


def how_deep(form):
    return 1 + max([how_deep(inner) for inner in form[1:]], default=0)


def is_great(form):
    return many_names(form) > 2000 or how_deep(form) > 200


class Ended(Exception):
    """The working out ends with these."""


def worked(book, form, most):
    """By the words: each answer is written out, and its asks are worked out in it, one by one, till none is left."""
    verbs = {verb[0] for edition in book for verb in edition[4]}
    rows = {edition[:2]: edition[6] for edition in book}
    asks = []

    def innermost_asks(tree):
        found = [place for place in places(tree) if at_place(tree, place)[0] in verbs]
        return [place for place in found if not any(len(other) > len(place) and other[:len(place)] == place for other in found)]

    def comes_to(form):
        if is_great(form):
            raise Ended("great", form)
        found = answers(book, form)
        if found is None:
            raise Ended("none", form)
        if len(asks) == most:
            raise Ended("many", form)
        asks.append((form, *found))
        tree = told_by(rows[found[0]][found[1]], form)
        while innermost_asks(tree):
            place = innermost_asks(tree)[0]
            tree = put_at(tree, place, comes_to(at_place(tree, place)))
        if is_great(tree):
            raise Ended("great", form)
        return tree

    try:
        return ("told", comes_to(form), tuple(asks))
    except Ended as ended:
        return (*ended.args, tuple(asks))


NUMBER = "(?:0|[1-9][0-9]{0,5})"
TREE = r"[a-z.(), ]*"
ROWS = [rf"sees ([a-z]+) ({NUMBER})", rf"word ([a-z.]+)((?: {NUMBER})*)", rf"verb ([a-z.]+) ([a-z]+)((?: {NUMBER})*)",
        r"gives ([a-z.]+) ([a-z]+)", rf"row ({TREE}) = ({TREE})"]


def tree_text(tree):
    if type(tree) is str or len(tree) == 1:
        return "".join(tree)
    return tree[0] + "(" + ", ".join(tree_text(inner) for inner in tree[1:]) + ")"


def edition_text(edition):
    line, number, sees, words, verbs, gives, rows = edition
    told = [("edition", line, number)] + [("sees", *key) for key in sees] + [("word", full, *order) for full, order in words]
    told += [("verb", full, way, *order) for full, order, way in verbs] + [("gives", *pair) for pair in gives]
    told += [("row", tree_text(head), "=", tree_text(answer)) for head, answer in rows]
    return "\n".join(" ".join(str(piece) for piece in row) for row in told)


def book_text(book):
    return "\n\n".join(edition_text(edition) for edition in book) or "none"


def tree_of(text):
    """The tree whose text it is, None of any other."""
    try:
        tree = read(text)
    except IndexError:
        return None
    return tree if is_tree(tree) and tree_text(tree) == text else None


def edition_of(text):
    """The edition whose text it is, None of any other."""
    if type(text) is not str:
        return None
    first, *rest = text.split("\n")
    found = re.fullmatch(f"edition ([a-z]+) ({NUMBER})", first)
    if not found:
        return None
    told = [[], [], [], [], []]
    sorts = []
    for row in rest:
        fits_row = [(sort, re.fullmatch(pattern, row)) for sort, pattern in enumerate(ROWS) if re.fullmatch(pattern, row)]
        if not fits_row:
            return None
        (sort, match), = fits_row
        sorts.append(sort)
        told[sort].append(read_row(sort, match.groups()))
    made = (found[1], int(found[2]), *[tuple(row) for row in told])
    return made if sorts == sorted(sorts) and is_edition(made) else None


def read_row(sort, groups):
    if sort == 0:
        return (groups[0], int(groups[1]))
    if sort in (1, 2):
        return (groups[0], tuple(int(number) for number in groups[-1].split()), *groups[1:-1])
    return tuple(groups) if sort == 3 else (tree_of(groups[0]), tree_of(groups[1]))


def book_of(text):
    """What read_book tells, or the name and the values of what it refuses."""
    if text == "none" and type(text) is str:
        return ()
    book = tuple(edition_of(part) for part in text.split("\n\n")) if type(text) is str else (None,)
    if None in book:
        return ("NoText",)
    for number, edition in enumerate(book):
        if refusal(book[:number], edition) is not None:
            return ("NotBook", number)
    return book


LINES = {"book": "book", "publish": "publish\n(.*)", "fate": f"fate ({NUMBER})\n(.*)", "stranger": f"stranger ({NUMBER})\n(.*)",
         "who": "who (.*)", "ask": f"ask ({NUMBER}) (.*)", "meet": "meet (.*) & (.*)", "look": "look (.*)"}


class Refused(Exception):
    """What a desk refuses, by its name and its values."""


def desk_says(book, line):
    """(what a desk tells of a line or the name and the values of what it refuses, the book that it then has)."""
    found = [(word, re.fullmatch(pattern, line, re.DOTALL)) for word, pattern in LINES.items() if type(line) is str]
    found = [(word, match.groups()) for word, match in found if match]
    if not found or (found[0][0] == "meet" and line[5:].count(" & ") != 1):
        return ("NoLine", line), book
    (word, groups), = found
    try:
        if word == "publish":
            made = edition_read(groups[0])
            hold(refusals(book, made))
            return f"{made[0]} {made[1]}", book + (made,)
        return TELLERS[word](book, *groups), book
    except Refused as refused:
        return refused.args, book


def hold(refusals_due):
    for refused in refusals_due:
        raise Refused(*refused)


def edition_read(text):
    made = edition_of(text)
    hold([("NoText",)] if made is None else [])
    return made


def row_read(book, number, text):
    made = edition_read(text)
    hold(refused for refused in refusals(book, made) if refused[0] not in ("Holed", "Answered", "Stray"))
    hold([("NoRow", int(number))] if int(number) >= len(made[6]) else [])
    return made, int(number)


def tree_read(text):
    tree = tree_of(text)
    hold([("NoText",)] if tree is None else [])
    return tree


def head_read(text):
    tree = tree_read(text)
    hold([("NoText",)] if type(tree) is str else [])
    return tree


def book_lore(book):
    return tuple(tuple(sorted(told for made in book for told in made[at])) for at in (3, 4))


def hold_names(book, head):
    words, verbs = [{(told[0], len(told[1])) for told in row} for row in book_lore(book)]
    hold(("Unheard", name) for name in names_due(head, verbs, words))


def form_read(book, text):
    form = head_read(text)
    hold([("NoText",)] if holes(form) else [])
    hold_names(book, form)
    return form


def says_fate(book, number, text):
    told = fate(book, *row_read(book, number, text))
    return " ".join(str(piece) for row in told for piece in (row if type(row) is tuple else (row,)))


def says_who(book, text):
    found = answers(book, form_read(book, text))
    return f"{found[0][0]} {found[0][1]} {found[1]}" if found else "-"


def says_ask(book, most, text):
    word, tree, _ = worked(book, form_read(book, text), int(most))
    return f"{word} {tree_text(tree)}"


def says_meet(book, one, other):
    both = meet(head_read(one), head_read(other))
    return tree_text(both) if both else "never"


def says_look(book, text):
    head = head_read(text)
    hold_names(book, head)
    return " ".join(symbol for _, symbol in looked(book_lore(book), head))


def says_stranger(book, number, text):
    """Which one is told isn't promised: whether any is, and what stands in its place where none is."""
    made, number = row_read(book, number, text)
    return "-" if fate(book, made, number)[0] not in ("holed", "stray") else (made, number)


TELLERS = {"book": book_text, "fate": says_fate, "stranger": says_stranger, "who": says_who, "ask": says_ask,
           "meet": says_meet, "look": says_look}


def caught(function, *handed):
    """What a function tells, or the name and the values of what it refuses."""
    try:
        return function(*handed)
    except ValueError as refused:
        return (type(refused).__name__, *vars(refused).values())
