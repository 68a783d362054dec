"""Pairs of editions that differ in rows alone, and the plainest looks at whether they are answered alike."""
import itertools

from tests import plainly
from tests.books import LINES, next_number, some_order, some_tree


def answered(book, made, behind, form):
    """What the edition's own row tells of a form in the book with it, and with another one behind; None without one."""
    found = plainly.answers(book + (made, behind), form)
    if found is None or found[0] != made[:2]:
        return None
    return plainly.told_by(made[6][found[1]], form)


def shows_parted(book, one, other, thing):
    """Whether it is any such pair as the document tells of."""
    if not plainly.is_each(thing, plainly.is_edition, lambda form: plainly.is_tree(form) and not plainly.holes(form)):
        return False
    behind, form = thing
    line, _, sees, words, *rest = behind
    if sees or rest != [(), (), ()] or any(order for _, order in words):
        return False
    if line in [made[0] for made in book + (one, other)]:
        return False
    if not plainly.is_book(book + (one, behind)) or not plainly.is_book(book + (other, behind)):
        return False
    told = {row[0]: len(row[1]) for made in book + (one, behind) for row in made[3] + made[4]}
    trees = [plainly.at_place(form, place) for place in plainly.places(form)]
    if any(told.get(tree[0]) != len(tree) - 1 for tree in trees):
        return False
    return answered(book, one, behind, form) != answered(book, other, behind, form)


def forms_asked(dice, one, other, words, most):
    """Forms of the heads of both, on trees of these words, small ones all, of more only so many."""
    trees = [(full,) for full, order in words if not order]
    trees += [(full, *[dice.choice(trees) for _ in order]) for full, order in words for _ in order]
    found = []
    for head, _ in one[6] + other[6]:
        holes = sorted(plainly.holes(head))
        if len(trees) ** len(holes) <= most:
            rows = list(itertools.product(trees, repeat=len(holes)))
        else:
            rows = [[dice.choice(trees) for _ in holes] for _ in range(most)]
        found += [plainly.put_for(head, dict(zip(holes, row))) for row in rows]
    return found


def some_twins(dice, book, words, verbs):
    """(one, other): two next editions of a line that tells these names, with rows of chance, and such a change of them."""
    line = dice.choice(LINES)
    words = tuple((f"{line}.{name}", some_order(dice, most)) for name, most in words)
    verbs = tuple((f"{line}.{name}", some_order(dice, most), dice.choice(["deep", "wide"])) for name, most in verbs)
    rows = twin_rows(dice, words, verbs, dice.randrange(1, 6))
    made = (line, next_number(book, line), tuple(sorted(other[:2] for other in book)), words, verbs, ())
    return made + (rows,), made + (changed(dice, rows, twin_rows(dice, words, verbs, 1)),)


def twin_rows(dice, words, verbs, many):
    rows = []
    for _ in range(many):
        verb, order, _ = dice.choice(verbs)
        head = (verb, *[some_tree(dice, words, dice.choice([1, 2]), 0.6) for _ in order])
        holes = sorted(plainly.holes(head))
        rows.append((head, dice.choice(holes + [(full,) for full, parts in words if not parts])))
    return tuple(rows)


def changed(dice, rows, more):
    """The rows with something otherwise, which may make no difference."""
    rows = list(rows)
    for _ in range(dice.choice([1, 1, 1, 2])):
        at = dice.randrange(len(rows)) if rows else 0
        way = dice.randrange(8)
        if way == 0:
            dice.shuffle(rows)
        elif way == 1 and len(rows) > 1:
            rows[0], rows[at] = rows[at], rows[0]
        elif way == 2:
            rows[at:at + 1] = []
        elif way == 3:
            rows[at:at + 1] = rows[at:at + 1] * 2
        elif way == 4:
            rows.append(more[0])
        elif way == 5 and rows:
            rows[at] = (rows[at][0], dice.choice(sorted(plainly.holes(rows[at][0])) + [rows[at][1]]))
        elif way == 6 and rows:
            rows[at] = calling_otherwise(rows[at])
        elif rows:
            rows.append(filled_row(dice, rows[at], more[0][0][1:]))
    return tuple(rows)


def calling_otherwise(row):
    """The row with its holes called otherwise."""
    put = {hole: {"x": "z", "y": "x", "z": "y"}.get(hole, hole) for hole in plainly.holes(row[0])}
    return (plainly.put_for(row[0], put), plainly.put_for(row[1], put))


def filled_row(dice, row, trees):
    """The row with some of these trees for its holes."""
    put = {hole: dice.choice(list(trees) + [hole]) for hole in sorted(plainly.holes(row[0]))}
    return (plainly.put_for(row[0], put), plainly.put_for(row[1], put))
