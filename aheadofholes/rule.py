"""The rule to which each edition is held by itself: what becomes of its rows, and whether it is let by."""
from aheadofholes.editions import GIVES, LINE, ROWS, SEES, VERBS, WORDS, is_edition, key_of
from aheadofholes.errors import Answered, HoleError, Holed, Loose, NoEdition, NotKept, NotNext, NotOut, Stray, Told
from aheadofholes.errors import Unheard
from aheadofholes.houses import answers
from aheadofholes.looking import looked
from aheadofholes.lores import has_parts, parts_by_name
from aheadofholes.sights import keeper_in, lore_told, sight
from aheadofholes.trees import holes_in, is_hole, trees_in


def fate(book, edition, number):
    """What becomes of a row of an edition, its head being of the edition's lore."""
    seen = sight(book, edition)
    return _fate_of(seen, lore_told([*seen, edition]), edition, edition[ROWS][number][0])


def let_by(book, edition):
    """None where an edition may be put behind the book; refused with the first reason why it may not."""
    hold_all_but_fates(book, edition)
    seen = sight(book, edition)
    _hold_fates(seen, lore_told([*seen, edition]), edition)


def hold_all_but_fates(book, edition):
    """Refuses an edition as let_by does, but not for what becomes of its rows."""
    if not is_edition(edition):
        raise NoEdition()
    _hold_place(book, edition)
    _hold_told(book, edition)
    seen = sight(book, edition)
    _hold_names(lore_told([*seen, edition]), edition)
    _hold_gives(seen, edition)
    _hold_holes(edition)


def hold_head(lore, head):
    """Refuses a head with Unheard of its first name that the lore doesn't tell so."""
    words, verbs = lore
    _hold_trees([head], parts_by_name(verbs))
    _hold_trees(trees_in(head)[1:], parts_by_name(words))


def is_let_by(book, edition):
    """Whether an edition, or any other thing, may be put behind the book."""
    try:
        let_by(book, edition)
    except HoleError:
        return False
    return True


def is_book(thing):
    """Whether it is a tuple of editions, each of which is let by behind those ahead of it."""
    if type(thing) is not tuple:
        return False
    for number, edition in enumerate(thing):
        # Behind a thing that isn't let by nothing more is asked, as that may be no edition.
        if not is_let_by(thing[:number], edition):
            return False
    return True


def _fate_of(seen, lore, edition, head):
    own = parts_by_name(edition[WORDS] + edition[VERBS])
    symbols = [symbol for _, symbol in looked(lore, head)]
    for step, symbol in enumerate(symbols):
        if symbol in own:
            return ("own", step)
    if symbols[-1] in holes_in(head):
        return ("holed", len(symbols) - 1)
    found = answers(seen, head)
    if found is not None:
        return ("answered", *found)
    if keeper_in(seen, head[0]) != edition[LINE]:
        return ("stray",)
    return ("home",)


def _hold_place(book, edition):
    line, number = key_of(edition)
    keys = {key_of(other): True for other in book}
    if number != 1 + len([key for key in keys if key[0] == line]):
        raise NotNext(number)
    for key in edition[SEES]:
        if key not in keys:
            raise NotOut(key)


def _hold_told(book, edition):
    ahead = parts_by_name([told for other in book for told in other[WORDS] + other[VERBS]])
    for told in edition[WORDS] + edition[VERBS]:
        if told[0] in ahead:
            raise Told(told[0])


def _hold_names(lore, edition):
    words, verbs = lore
    told = parts_by_name(words + verbs)
    kept = parts_by_name(verbs)
    for verb, _ in edition[GIVES]:
        if verb not in kept:
            raise Unheard(verb)
    for head, answer in edition[ROWS]:
        hold_head(lore, head)
        _hold_trees(trees_in(answer), told)


def _hold_trees(trees, many):
    for tree in trees:
        if not is_hole(tree) and not has_parts(tree, many):
            raise Unheard(tree[0])


def _hold_gives(seen, edition):
    for verb, _ in edition[GIVES]:
        if keeper_in(seen, verb) != edition[LINE]:
            raise NotKept(verb)


def _hold_holes(edition):
    for number, (head, answer) in enumerate(edition[ROWS]):
        holes = holes_in(head)
        if not all([hole in holes for hole in holes_in(answer)]):
            raise Loose(number)


def _hold_fates(seen, lore, edition):
    for number, (head, _) in enumerate(edition[ROWS]):
        word, *told = _fate_of(seen, lore, edition, head)
        if word == "holed":
            raise Holed(number, told[0])
        if word == "answered":
            raise Answered(number, told[0])
        if word == "stray":
            raise Stray(number)
