"""What comes of two books put together."""
from aheadofholes.editions import key_of
from aheadofholes.errors import Forked
from aheadofholes.kinds import is_just


def joined(book, other):
    """The book, and behind it all editions of other that it hasn't; refused with Forked of the least unlike key."""
    out = {key_of(edition): edition for edition in book}
    forked = [key_of(made) for made in other if key_of(made) in out and not is_just(made, out[key_of(made)])]
    if forked:
        raise Forked(min(forked))
    return (*book, *[made for made in other if key_of(made) not in out])
