"""Texts of editions and of books."""
from aheadofholes.editions import is_edition
from aheadofholes.errors import NoText, NotBook
from aheadofholes.rule import is_let_by
from aheadofholes.treetexts import read_tree, show_tree

FIGURES = "0123456789"
MOST_FIGURES = 6
NO_EDITIONS = "none"


def show_edition(edition):
    """The text of an edition."""
    line, number, sees, words, verbs, gives, rows = edition
    return "\n".join([
        f"edition {line} {number}",
        *[f"sees {seen} {its}" for seen, its in sees],
        *[" ".join(["word", full, *_figures(order)]) for full, order in words],
        *[" ".join(["verb", full, way, *_figures(order)]) for full, order, way in verbs],
        *[f"gives {full} {to}" for full, to in gives],
        *[f"row {show_tree(head)} = {show_tree(answer)}" for head, answer in rows],
    ])


def show_book(book):
    """The text of a book."""
    if not book:
        return NO_EDITIONS
    return "\n\n".join([show_edition(edition) for edition in book])


def is_number_text(text):
    """Whether it is a number just as numbers are written."""
    if not 1 <= len(text) <= MOST_FIGURES or not all([sign in FIGURES for sign in text]):
        return False
    return text == "0" or text[0] != "0"


def _figures(order):
    return [str(number) for number in order]


def _read_number(text):
    if not is_number_text(text):
        raise NoText()
    return int(text)


def _read_two(text, sign):
    parts = text.split(sign)
    if len(parts) != 2:
        raise NoText()
    return parts


def _read_key(text):
    line, number = _read_two(text, " ")
    return (line, _read_number(number))


def _read_word(text):
    full, *order = text.split(" ")
    return (full, tuple([_read_number(number) for number in order]))


def _read_verb(text):
    full, _, rest = text.partition(" ")
    way, order = _read_word(rest)
    return (full, order, way)


def _read_gift(text):
    full, line = _read_two(text, " ")
    return (full, line)


def _read_row(text):
    head, answer = _read_two(text, " = ")
    return (read_tree(head), read_tree(answer))


READERS = {"sees": _read_key, "word": _read_word, "verb": _read_verb, "gives": _read_gift, "row": _read_row}


def read_edition(text):
    """The edition whose text it is; refused with NoText else."""
    if type(text) is not str:
        raise NoText()
    first, *rows = text.split("\n")
    told = {sort: [] for sort in READERS}
    for row in rows:
        sort, _, rest = row.partition(" ")
        if sort not in told:
            raise NoText()
        read = READERS[sort]
        told[sort].append(read(rest))
    edition = (*_read_key(first.partition(" ")[2]), *[tuple(told[sort]) for sort in READERS])
    # Each row was read by itself. Whether all stand just so, one sort behind another, the edition's own text tells.
    if not is_edition(edition) or show_edition(edition) != text:
        raise NoText()
    return edition


def read_book(text):
    """The book whose text it is; refused with NoText else, or with NotBook of the first edition that isn't let by."""
    if type(text) is not str:
        raise NoText()
    if text == NO_EDITIONS:
        return ()
    book = tuple([read_edition(part) for part in text.split("\n\n")])
    for number, edition in enumerate(book):
        if not is_let_by(book[:number], edition):
            raise NotBook(number)
    return book
