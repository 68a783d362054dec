"""Editions that the program makes up to show something."""
from aheadofholes.editions import GIVES, LINE, key_of
from aheadofholes.trees import holes_in, nth_name, put_for


def keys_in(seen):
    """The rising tuple of the keys of these editions."""
    return tuple(sorted([key_of(edition) for edition in seen]))


def next_with(line, seen, form):
    """The next edition of a line, which sees just these editions and tells nothing but a row with this form as head."""
    number = 1 + len([edition for edition in seen if edition[LINE] == line])
    return (line, number, keys_in(seen), (), (), (), ((form, form),))


def line_unlike(editions):
    """A line that none of the editions is of, nor gives anything to."""
    taken = {}
    for edition in editions:
        taken[edition[LINE]] = True
        for _, line in edition[GIVES]:
            taken[line] = True
    number = 0
    while nth_name(number) in taken:
        number += 1
    return nth_name(number)


def with_words(line, head):
    """(edition, form): the line's first edition, which tells a word for each hole of a head, and the head with these.

    The words have no parts, and the edition tells nothing else.
    """
    by = [(hole, (f"{line}.{nth_name(number)}",)) for number, hole in enumerate(holes_in(head))]
    words = tuple(sorted([(word[0], ()) for _, word in by]))
    return ((line, 1, (), words, (), (), ()), put_for(head, by))
