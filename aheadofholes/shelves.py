"""A shelf: trees under numbers."""
from aheadofholes.trees import built


class Shelf:
    """Every tree that stands in one of two heads, once for each of the two, under a number from 0 on."""

    def __init__(self):
        self.sides = []
        self.parts = []
        self._numbers = {}

    def put_up(self, which, tree):
        """The number of a tree of one (which is 0) or of other (1), all its trees being put up, too."""
        return built(
            tree,
            lambda hole: self._number(which, hole, []),
            lambda full, parts: self._number(which, full, parts),
        )

    def _number(self, which, name, parts):
        # Parts have their numbers already, so a key needn't be nested as deep as its tree.
        key = (which, name, *parts)
        if key not in self._numbers:
            self._numbers[key] = len(self.sides)
            self.sides.append((which, self._tree(name, parts)))
            self.parts.append(parts)
        return self._numbers[key]

    def _tree(self, name, parts):
        if "." not in name:
            return name
        return (name, *[self.sides[part][1] for part in parts])
