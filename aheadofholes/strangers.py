"""The stranger who would meet a row that is holed or stray."""
from aheadofholes.editions import ROWS
from aheadofholes.looking import looked
from aheadofholes.makings import keys_in, line_unlike, next_with
from aheadofholes.rule import fate
from aheadofholes.sights import keeper_in, lore_told, sight
from aheadofholes.trees import holes_in, nth_name, put_for, renamed, tree_at


def stranger(book, edition, number):
    """(other, form): another line's edition and a form that it and this row match; None where the rule lets the row by.

    None, too, of a row that is answered ahead.
    """
    word = fate(book, edition, number)[0]
    head = edition[ROWS][number][0]
    seen = sight(book, edition)
    if word == "holed":
        steps = looked(lore_told([*seen, edition]), head)
        return _for_holed(line_unlike([*book, edition]), seen, head, steps)
    if word == "stray":
        return (next_with(keeper_in(seen, head[0]), seen, head), head)
    return None


def _for_holed(line, seen, head, steps):
    place, met = steps[-1]
    full = f"{line}.{met}"
    row = (_widest(head, steps[:-1], place, full), (full,))
    # The word, without parts, may stand in the places of the head's other holes, too.
    form = put_for(head, [(hole, (full,)) for hole in holes_in(head)])
    return ((line, 1, keys_in(seen), ((full, ()),), (), (), (row,)), form)


def _widest(head, ahead, end, full):
    """The head that has the same names ahead, a word without parts where looking ends, and elsewhere holes."""
    tree = nth_name(0)
    holes = {(): tree}
    for place, symbol in ahead:
        parts = []
        for number in range(len(tree_at(head, place)) - 1):
            hole = nth_name(len(holes))
            below = (*place, number)
            holes[below] = hole
            parts.append(hole)
        tree = put_for(tree, [(holes[place], (symbol, *parts))])
    return renamed(put_for(tree, [(holes[end], (full,))]))
