"""Who may answer a form, from now on for ever."""
from aheadofholes.houses import answers
from aheadofholes.makings import next_with
from aheadofholes.sights import keeper_in


def may_come(book, form):
    """("settled", key, number) of the row that answers; else ("kept", line, edition), the one that may answer yet."""
    found = answers(book, form)
    if found is not None:
        return ("settled", *found)
    line = keeper_in(book, form[0])
    return ("kept", line, next_with(line, book, form))
