"""Which forms a head matches, and which head is an instance of which."""
from aheadofholes.kinds import is_just
from aheadofholes.trees import begin_alike, is_hole


def match(head, form):
    """The trees that, put for the head's holes, make it the form, as pairs (hole, tree); None where none do."""
    put = {}
    left = [(head, form)]
    while left:
        wanted, there = left.pop()
        if is_hole(wanted):
            if wanted not in put:
                put[wanted] = there
            elif not is_just(there, put[wanted]):
                return None
        elif is_hole(there) or not begin_alike(wanted, there):
            return None
        else:
            left.extend(list(zip(wanted[:0:-1], there[:0:-1])))
    # The holes were met from the left as written, so they are kept in the order of holes_in.
    return tuple(put.items())


def is_instance(one, other):
    """Whether one comes of other by some trees for other's holes, one's own holes being kept."""
    return match(other, one) is not None
