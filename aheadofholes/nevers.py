"""Papers that two heads never meet."""
from aheadofholes.sames import Sames, tops_below


def never(one, other):
    """None where the heads meet, else a paper that they never do."""
    sames = Sames(one, other)
    if sames.clash is not None:
        rows, numbers = _rows_for(sames, [sames.clash])
        return (rows, ("clash", numbers[0]))
    _, ring = tops_below(sames)
    if not ring:
        return None
    rows, numbers = _rows_for(sames, _rows_of_ring(sames, ring))
    return (rows, ("ring", tuple(numbers)))


def _rows_of_ring(sames, ring):
    """Rows that go from a hole to a tree, in which the next row's hole stands, and so around."""
    leads = {}
    for top, then in zip(ring, ring[1:] + ring[:1]):
        leads[top] = sames.below(top).index(then)
    holes = []
    here = _hole_below(sames, leads, ring[0])
    while here not in holes:
        holes.append(here)
        here = _hole_below(sames, leads, sames.tops[here])
    return [sames.ways[hole] for hole in holes[holes.index(here):]]


def _hole_below(sames, leads, number):
    """The hole within a tree that is met on the way around the ring.

    The way goes on through heaps for ever, and the tree has an end, so that it must come to a hole.
    """
    here = number
    while not sames.is_hole_at(here):
        here = sames.shelf.parts[here][leads[sames.tops[here]]]
    return here


def _rows_for(sames, ends):
    """(rows, numbers): the rows that these rows need, as they stand in a paper, and what numbers these have there."""
    needed = set(ends)
    for number in reversed(range(len(sames.rows))):
        if number in needed:
            for row in _rows_named(sames.rows[number][2]):
                needed.add(row)
    kept = sorted(needed)
    places = {number: place for place, number in enumerate(kept)}
    rows = tuple([_row_in_paper(sames, number, places) for number in kept])
    return (rows, [places[number] for number in ends])


def _rows_named(ground):
    if ground[0] == "part":
        return ground[1:2]
    return ground[1:]


def _row_in_paper(sames, number, places):
    first, second, ground = sames.rows[number]
    named = [places[row] for row in _rows_named(ground)]
    ground = ground[:1] + tuple(named) + ground[1 + len(named):]
    return (sames.shelf.sides[first], sames.shelf.sides[second], ground)
