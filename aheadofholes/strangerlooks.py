"""Looking at strangers who would meet a row, whoever told them."""
from aheadofholes.editions import LINE, ROWS, is_edition
from aheadofholes.heads import match
from aheadofholes.houses import who
from aheadofholes.lores import is_of
from aheadofholes.rule import fate, is_let_by
from aheadofholes.sights import lore_told, sight
from aheadofholes.trees import is_form


def shows_stranger(book, edition, number, thing):
    """Whether it is a pair (other, form) of an edition and a form that both this row and a row of it match."""
    if type(thing) is not tuple or len(thing) != 2:
        return False
    other, form = thing
    if not is_edition(other) or not is_form(form) or other[LINE] == edition[LINE]:
        return False
    if fate(book, edition, number)[0] not in ("holed", "stray"):
        return False
    seen = sight(book, edition)
    if not is_let_by(seen, other) or not is_of(lore_told([*seen, edition, other]), form):
        return False
    return match(edition[ROWS][number][0], form) is not None and who((other,), form) != ()
