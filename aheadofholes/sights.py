"""What an edition sees, what lore it has of that, and who keeps a verb as it sees it."""
from aheadofholes.editions import GIVES, SEES, VERBS, WORDS, key_of
from aheadofholes.trees import line_of


def sight(book, edition):
    """The editions of the book that an edition sees, in the book's order."""
    return house_with(book, _keys_named(edition))


def lore_of(book, edition):
    """The lore of the editions that an edition sees, and of itself."""
    return lore_told([*sight(book, edition), edition])


def keeper(book, edition, verb):
    """The line that keeps a verb as an edition sees it."""
    return keeper_in(sight(book, edition), verb)


def house_with(book, keys):
    """The editions of these keys and all that they see, in the book's order."""
    out = {key_of(edition): edition for edition in book}
    found = {}
    left = list(keys)
    while left:
        key = left.pop()
        if key not in found:
            found[key] = True
            left.extend(_keys_named(out[key]))
    return tuple([edition for edition in book if key_of(edition) in found])


def _keys_named(edition):
    """The keys of an edition's sees and of its line's lesser numbers."""
    line, number = key_of(edition)
    return [*edition[SEES], *[(line, lesser) for lesser in range(1, number)]]


def lore_told(editions):
    """The lore of all that these editions tell."""
    words = sorted({word for edition in editions for word in edition[WORDS]})
    verbs = sorted({verb for edition in editions for verb in edition[VERBS]})
    return (tuple(words), tuple(verbs))


def keeper_in(seen, verb):
    """The line that keeps a verb as somebody sees it who sees just these editions, in a book's order."""
    line = line_of(verb)
    for edition in seen:
        for given, to in edition[GIVES]:
            if given == verb:
                line = to
    return line
