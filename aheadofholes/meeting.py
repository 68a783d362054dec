"""What two heads both come to."""
from aheadofholes.sames import Sames, tops_below
from aheadofholes.trees import nth_name, renamed


def meet(one, other):
    """The head, renamed, that matches just the forms that both match; or None."""
    sames = Sames(one, other)
    if sames.clash is not None:
        return None
    tops, ring = tops_below(sames)
    if ring:
        return None
    trees = {}
    for top in tops:
        trees[top] = _tree_of(sames, top, trees)
    return renamed(trees[tops[-1]])


def _tree_of(sames, top, trees):
    if sames.is_hole_at(top):
        # Each heap of holes needs only some name of its own till the whole is renamed.
        return nth_name(top)
    return (sames.shelf.sides[top][1][0], *[trees[part] for part in sames.below(top)])
