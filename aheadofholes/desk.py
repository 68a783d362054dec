"""A desk, at which a book is read, added to and asked by lines."""
from aheadofholes.editions import ROWS, key_of
from aheadofholes.errors import NoRow, NoText
from aheadofholes.houses import answers
from aheadofholes.lines import read_line
from aheadofholes.looking import looked
from aheadofholes.meeting import meet
from aheadofholes.rule import fate, hold_all_but_fates, hold_head, let_by
from aheadofholes.sights import lore_told
from aheadofholes.strangers import stranger
from aheadofholes.texts import read_book, read_edition, show_book, show_edition
from aheadofholes.trees import is_form, is_hole
from aheadofholes.treetexts import read_tree, show_tree
from aheadofholes.working import worked

NOBODY = "-"


def _read_head(text):
    head = read_tree(text)
    if is_hole(head):
        raise NoText()
    return head


def _read_form(book, text):
    """The form of a text, of names that the book tells so."""
    form = read_tree(text)
    if not is_form(form):
        raise NoText()
    hold_head(lore_told(book), form)
    return form


def _read_edition_with(book, number, text):
    """The edition of a text that is let by, but perhaps for its rows' fates, and has a row of this number."""
    edition = read_edition(text)
    hold_all_but_fates(book, edition)
    if number >= len(edition[ROWS]):
        raise NoRow(number)
    return edition


def _show_row(key, number):
    line, its = key
    return f"{line} {its} {number}"


def _tell_fate(book, number, text):
    word, *told = fate(book, _read_edition_with(book, number, text), number)
    if word == "answered":
        row = _show_row(*told)
        return f"{word} {row}"
    return " ".join([word, *[str(step) for step in told]])


def _tell_book(book):
    return show_book(book)


def _tell_stranger(book, number, text):
    told = stranger(book, _read_edition_with(book, number, text), number)
    if told is None:
        return NOBODY
    other, form = told
    return f"{show_edition(other)}\n\n{show_tree(form)}"


def _tell_who(book, text):
    found = answers(book, _read_form(book, text))
    if found is None:
        return NOBODY
    return _show_row(*found)


def _tell_ask(book, most, text):
    word, tree, _ = worked(book, _read_form(book, text), most)
    return f"{word} {show_tree(tree)}"


def _tell_meet(_, one, other):
    head = meet(_read_head(one), _read_head(other))
    return "never" if head is None else show_tree(head)


def _tell_look(book, text):
    head = _read_head(text)
    lore = lore_told(book)
    hold_head(lore, head)
    return " ".join([symbol for _, symbol in looked(lore, head)])


TELLERS = {
    "ask": _tell_ask, "book": _tell_book, "fate": _tell_fate, "look": _tell_look, "meet": _tell_meet,
    "stranger": _tell_stranger, "who": _tell_who,
}


class Desk:
    """A book, and what is told of it line by line."""

    def __init__(self, text="none"):
        self._book = read_book(text)

    def say(self, line):
        """What is told of a line, a text; refused with NoLine of what is no line, and as each line tells."""
        word, *told = read_line(line)
        if word == "publish":
            return self._publish(*told)
        tell = TELLERS[word]
        return tell(self._book, *told)

    def _publish(self, text):
        edition = read_edition(text)
        let_by(self._book, edition)
        self._book = (*self._book, edition)
        line, number = key_of(edition)
        return f"{line} {number}"
