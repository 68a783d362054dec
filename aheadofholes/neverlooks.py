"""Looking at papers that two heads never meet, whoever made them.

Each row is held against what its ground gives. As a start has the two heads, and all other grounds take their sides
out of rows ahead, each side is then a tree that stands in one or in other.
"""
from aheadofholes.trees import begin_alike, holes_in, is_hole, is_tree


def shows_never(one, other, thing):
    """Whether it is a paper that the heads never meet."""
    if not _is_tuple_of(thing, 2) or type(thing[0]) is not tuple:
        return False
    rows, end = thing
    ahead = []
    for row in rows:
        if not _is_row(row) or row[:2] != _sides_due(one, other, ahead, row[2]):
            return False
        ahead.append(row)
    return _is_end(ahead, end)


def _is_tuple_of(thing, many):
    return type(thing) is tuple and len(thing) == many


def _is_number_below(thing, many):
    return type(thing) is int and 0 <= thing < many


def _is_row(thing):
    if not _is_tuple_of(thing, 3):
        return False
    first, second, ground = thing
    return _is_side(first) and _is_side(second) and _is_ground(ground)


def _is_side(thing):
    return _is_tuple_of(thing, 2) and _is_number_below(thing[0], 2) and is_tree(thing[1])


def _is_ground(thing):
    if type(thing) is not tuple or not thing or type(thing[0]) is not str:
        return False
    return all([type(number) is int for number in thing[1:]])


def _sides_due(one, other, ahead, ground):
    """The two sides that a ground gives, None where it gives none."""
    word, *numbers = ground
    if word == "start" and not numbers:
        return ((0, one), (1, other))
    if not numbers or not _is_number_below(numbers[0], len(ahead)):
        return None
    first, second, _ = ahead[numbers[0]]
    if word == "back" and len(numbers) == 1:
        return (second, first)
    if word == "part" and len(numbers) == 2:
        return _parts_due(first, second, numbers[1])
    if word == "over" and len(numbers) == 2 and _is_number_below(numbers[1], len(ahead)):
        return _over_due(first, second, ahead[numbers[1]])
    return None


def _parts_due(first, second, number):
    if is_hole(first[1]) or is_hole(second[1]) or not begin_alike(first[1], second[1]):
        return None
    if not 0 <= number < len(first[1]) - 1:
        return None
    return ((first[0], first[1][number + 1]), (second[0], second[1][number + 1]))


def _over_due(first, second, then):
    if second != then[0]:
        return None
    return (first, then[1])


def _is_end(rows, thing):
    if not _is_tuple_of(thing, 2) or type(thing[0]) is not str:
        return False
    word, told = thing
    if word == "clash":
        return _is_number_below(told, len(rows)) and _is_clash(rows[told])
    return word == "ring" and type(told) is tuple and _is_ring(rows, told)


def _is_clash(row):
    one, other = row[0][1], row[1][1]
    return not is_hole(one) and not is_hole(other) and not begin_alike(one, other)


def _is_ring(rows, numbers):
    if not numbers or not all([_is_number_below(number, len(rows)) for number in numbers]):
        return False
    ring = [rows[number] for number in numbers]
    nexts = ring[1:] + ring[:1]
    return all([_leads_to(row, then) for row, then in zip(ring, nexts)])


def _leads_to(row, then):
    """Whether a row's second side is no hole, and the next row's first side, a hole, stands in it.

    As each row of a ring is the next one of another, or of itself, the first sides are all looked at.
    """
    which, tree = row[1]
    return not is_hole(tree) and then[0][0] == which and then[0][1] in holes_in(tree)
