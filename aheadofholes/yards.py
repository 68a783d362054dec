"""A yard, in which editions are published."""
from aheadofholes.editions import key_of
from aheadofholes.rule import let_by


class Yard:
    """What has been published here, one edition behind another."""

    def __init__(self):
        self._out = []

    def publish(self, edition):
        """The key of an edition, which is out from now on; refused as let_by refuses it."""
        let_by(self._out, edition)
        self._out.append(edition)
        return key_of(edition)

    def book(self):
        """What is out, in the order in which it was published."""
        return tuple(self._out)

    def __len__(self):
        return len(self._out)
