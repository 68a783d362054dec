"""Looking at what a form is said to come to."""
from aheadofholes.kinds import is_just
from aheadofholes.working import worked


def shows_worked(book, form, most, thing):
    """Whether a thing is just what is told of the form when it is worked out."""
    return is_just(thing, worked(book, form, most))
