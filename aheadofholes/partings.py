"""Whether two editions that differ in rows alone may stand in one another's place."""
from aheadofholes.editions import ROWS
from aheadofholes.heads import match
from aheadofholes.makings import line_unlike, with_words
from aheadofholes.meeting import meet
from aheadofholes.trees import put_for


def parted(book, one, other):
    """(edition, form): an edition of words alone, behind which both answer the form unlike; None where none is."""
    line = line_unlike([*book, one, other])
    for head in _heads_asked(one, other):
        edition, form = with_words(line, head)
        if _told(one, form) != _told(other, form):
            return (edition, form)
    return None


def _heads_asked(one, other):
    """Heads of which some form is answered unlike where any form at all is.

    Whatever two rows answer is of what their heads both come to. Asked of that, with a word of its own for each hole,
    the same rows answer: none above them matches there that doesn't match each form of it. And where they tell one tree
    there, they tell one tree of each form of it. So it is with the head of a row alone, where the other has none.
    """
    for head, _ in one[ROWS] + other[ROWS]:
        yield head
    for head, _ in one[ROWS]:
        for then, _ in other[ROWS]:
            both = meet(head, then)
            if both is not None:
                yield both


def _told(edition, form):
    """What the edition's own rows tell of a form, asks not worked out; None where none of them matches it."""
    for head, answer in edition[ROWS]:
        put = match(head, form)
        if put is not None:
            return put_for(answer, put)
    return None
