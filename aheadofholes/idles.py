"""Which rows never answer anything, and what any other row answers."""
from aheadofholes.editions import ROWS
from aheadofholes.heads import is_instance
from aheadofholes.makings import line_unlike, with_words


def idle(edition):
    """The rising tuple of the numbers of rows that are instances of a row above."""
    heads = [head for head, _ in edition[ROWS]]
    return tuple([
        number for number, head in enumerate(heads) if any([is_instance(head, above) for above in heads[:number]])
    ])


def used(book, edition, number):
    """(other, form): an edition of words alone, behind which the row answers the form; None of an idle row."""
    if number in idle(edition):
        return None
    return with_words(line_unlike(book), edition[ROWS][number][0])
