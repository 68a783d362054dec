"""Texts of trees."""
from aheadofholes.errors import NoText
from aheadofholes.trees import MOST_PARTS, built, is_full, is_hole, is_name

# What is told of heads is nested a few hundred deep at most. A tree nested thousands deep couldn't even be compared
# with another one, so a text whose brackets stand open so deep is no tree's, whether they are closed or not.
MOST_OPEN = 999


def show_tree(tree):
    """The text of a tree."""
    return built(tree, lambda hole: hole, _written)


def _written(full, texts):
    if not texts:
        return full
    return f"{full}({', '.join(texts)})"


def read_tree(text):
    """The tree whose text it is; refused with NoText else."""
    if type(text) is not str or "\n" in text:
        raise NoText()
    waiting = []
    tree = None
    for sign in _signs(text):
        tree = _read_on(sign, tree, waiting)
    if tree is None or waiting:
        raise NoText()
    return tree


def _signs(text):
    """The text in pieces: brackets, commas with the blank behind them, and what stands between."""
    # No text that comes here has a line feed, so that it can part the pieces.
    parted = text.replace("(", "\n(\n").replace(")", "\n)\n").replace(", ", "\n, \n")
    return [sign for sign in parted.split("\n") if sign]


def _read_on(sign, tree, waiting):
    """The tree that ends with this sign, None where one is due behind it.

    tree is what was told of the sign ahead; waiting has, for each bracket that stands open, a list of the full name
    ahead of it and of the parts within it that were ended by a comma.
    """
    if sign == "(":
        _open_bracket(tree, waiting)
        return None
    if sign == ", ":
        _end_part(tree, waiting)
        return None
    if sign == ")":
        _end_part(tree, waiting)
        return _close_bracket(waiting)
    if tree is not None:
        raise NoText()
    return _tree_named(sign)


def _open_bracket(tree, waiting):
    # A tree that has had its brackets is longer than its name alone.
    if tree is None or is_hole(tree) or len(tree) > 1 or len(waiting) == MOST_OPEN:
        raise NoText()
    waiting.append([tree[0]])


def _end_part(tree, waiting):
    if tree is None or not waiting:
        raise NoText()
    waiting[-1].append(tree)


def _close_bracket(waiting):
    tree = tuple(waiting.pop())
    if len(tree) > MOST_PARTS + 1:
        raise NoText()
    return tree


def _tree_named(word):
    if is_name(word):
        return word
    if is_full(word):
        return (word,)
    raise NoText()
