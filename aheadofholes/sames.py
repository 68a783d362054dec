"""What becomes one tree where two heads become one form, and why.

Trees are put together into heaps. Each heap has a top, a named tree where it has any, else a hole, and each other tree
of the heap a row that says why it is the top's: so the row between any two trees of a heap is two rows away. Rows are
kept as in a paper, but with numbers of trees in the places of sides.
"""
from aheadofholes.shelves import Shelf
from aheadofholes.trees import begin_alike, is_hole


class Sames:
    """The heaps of the trees of two heads, once all that must be one is one, or two trees clash.

    tops and ways tell of each tree, by its number, its heap's top and the row from it to that (None for a top);
    clash is the number of a row between two trees that can't be one, or None.
    """

    def __init__(self, one, other):
        self.shelf = Shelf()
        self.start = self.shelf.put_up(0, one)
        second = self.shelf.put_up(1, other)
        many = len(self.shelf.sides)
        self.tops = list(range(many))
        self.ways = [None] * many
        self.rows = []
        self.clash = None
        self._heaps = [[number] for number in range(many)]
        self._waiting = []
        self._wait_for(self.start, second, ("start",))
        while self._waiting and self.clash is None:
            self._join(self._waiting.pop())

    def is_hole_at(self, number):
        """Whether the tree of this number is a hole."""
        return is_hole(self._tree(number))

    def below(self, top):
        """The tops of the parts of a top."""
        return [self.tops[part] for part in self.shelf.parts[top]]

    def _tree(self, number):
        return self.shelf.sides[number][1]

    def _row(self, first, second, ground):
        self.rows.append((first, second, ground))
        return len(self.rows) - 1

    def _wait_for(self, first, second, ground):
        self._waiting.append(self._row(first, second, ground))

    # None stands for the row from a top to itself, which no paper needs.

    def _back(self, row):
        if row is None:
            return None
        first, second, _ = self.rows[row]
        return self._row(second, first, ("back", row))

    def _over(self, row, then):
        if row is None:
            return then
        if then is None:
            return row
        return self._row(self.rows[row][0], self.rows[then][1], ("over", row, then))

    def _join(self, row):
        first, second, _ = self.rows[row]
        low, high = self.tops[first], self.tops[second]
        if low == high:
            return
        between = self._over(self._over(self._back(self.ways[first]), row), self.ways[second])
        if not self.is_hole_at(low) and not self.is_hole_at(high):
            if not begin_alike(self._tree(low), self._tree(high)):
                self.clash = between
                return
            self._wait_for_parts(low, high, between)
        if self._stays_top(low, high):
            self._move(high, low, self._back(between))
        else:
            self._move(low, high, between)

    def _wait_for_parts(self, low, high, between):
        for number, (first, second) in enumerate(zip(self.shelf.parts[low], self.shelf.parts[high])):
            if first != second:
                self._wait_for(first, second, ("part", between, number))

    def _stays_top(self, low, high):
        if self.is_hole_at(low) != self.is_hole_at(high):
            return self.is_hole_at(high)
        # Of two such heaps the smaller one moves, so that no tree is moved often.
        return len(self._heaps[low]) > len(self._heaps[high])

    def _move(self, low, high, between):
        moved = self._heaps[low]
        self._heaps[low] = []
        for number in moved:
            self.tops[number] = high
            self.ways[number] = self._over(self.ways[number], between)
        self._heaps[high].extend(moved)


def tops_below(sames):
    """(tops, ring): the tops of all heaps, each behind those of its parts, the start's last, and an empty list.

    Where that can't be: an empty list, and a ring of tops, each of which has the next one, the last one the first one,
    as the top of a part.
    """
    done = {}
    path = [sames.tops[sames.start]]
    while path:
        left = [top for top in sames.below(path[-1]) if top not in done]
        if not left:
            done[path.pop()] = True
        elif left[0] in path:
            return ([], path[path.index(left[0]):])
        else:
            path.append(left[0])
    return (list(done), [])
