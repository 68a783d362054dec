"""Whether a thing of any kind is just what it should be."""


def is_just(thing, wanted):
    """Whether a thing is the wanted one, kind by kind, so that no list is a tuple and no truth a number.

    The wanted one may be nested hundreds deep, so that both are gone through without nested calls.
    """
    left = [(thing, wanted)]
    while left:
        there, due = left.pop()
        if type(due) is tuple:
            if type(there) is not tuple or len(there) != len(due):
                return False
            left.extend(list(zip(there, due)))
        elif not (type(there) is type(due) and there == due):
            return False
    return True
