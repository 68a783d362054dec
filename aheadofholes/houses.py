"""Houses, and who answers in them."""
from aheadofholes.editions import ROWS, is_key, key_of
from aheadofholes.errors import NotOut
from aheadofholes.heads import match
from aheadofholes.sights import house_with


def part(book, keys):
    """The least house of the book with these keys; refused with NotOut of the first one that isn't there."""
    out = {key_of(edition): True for edition in book}
    for key in keys:
        # A truth would be found as the number that it equals, and a list couldn't be looked for.
        if not is_key(key) or key not in out:
            raise NotOut(key)
    return house_with(book, keys)


def who(book, form):
    """All (key, number) of rows whose heads match the form, by the book's order, then by number."""
    return tuple([
        (key_of(edition), number)
        for edition in book
        for number, row in enumerate(edition[ROWS])
        if match(row[0], form) is not None
    ])


def answers(book, form):
    """(key, number) of the row that answers the form; None where none does."""
    found = who(book, form)
    if not found:
        return None
    # All editions that have such a row see one another in a row, so that the last one of the book sees all others.
    last = found[-1][0]
    return [row for row in found if row[0] == last][0]
