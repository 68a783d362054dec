"""The form of an edition: (line, number, sees, words, verbs, gives, rows)."""
from aheadofholes.lores import are_rising, is_lore
from aheadofholes.trees import is_full, is_hole, is_name, is_tree, line_of

LINE = 0
SEES = 2
WORDS = 3
VERBS = 4
GIVES = 5
ROWS = 6


def key_of(edition):
    """The key (line, number) of an edition."""
    return edition[:2]


def is_key(thing):
    """Whether it may be the key of an edition."""
    if type(thing) is not tuple or len(thing) != 2:
        return False
    line, number = thing
    return is_name(line) and type(number) is int and number >= 1


def is_edition(thing):
    """Whether it is of the form of an edition."""
    if type(thing) is not tuple or len(thing) != 7:
        return False
    line, _, sees, words, verbs, gives, rows = thing
    if not is_key(key_of(thing)) or not _are_sees(sees):
        return False
    return _are_told_by(line, words, verbs) and are_rising(gives, _is_gift) and _are_rows(rows)


def _are_sees(thing):
    if type(thing) is not tuple or not all([is_key(key) for key in thing]):
        return False
    return all([one < other for one, other in zip(thing, thing[1:])])


def _are_told_by(line, words, verbs):
    return is_lore((words, verbs)) and all([line_of(told[0]) == line for told in words + verbs])


def _is_gift(thing):
    return type(thing) is tuple and len(thing) == 2 and is_full(thing[0]) and is_name(thing[1])


def _are_rows(thing):
    return type(thing) is tuple and all([_is_row(row) for row in thing])


def _is_row(thing):
    if type(thing) is not tuple or len(thing) != 2:
        return False
    head, answer = thing
    return is_tree(head) and not is_hole(head) and is_tree(answer)
