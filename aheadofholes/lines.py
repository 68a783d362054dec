"""Lines that a desk is told."""
from aheadofholes.errors import NoLine
from aheadofholes.texts import is_number_text

BEHIND_NUMBERS = {"ask": " ", "fate": "\n", "stranger": "\n"}


def read_line(line):
    """The word of a line, and what is told behind it: numbers and texts; refused with NoLine of any other thing."""
    told = _parted(line) if type(line) is str else ()
    if not told:
        raise NoLine(line)
    return told


def _parted(line):
    """The parts of a line, none where it is no line."""
    if line == "book":
        return (line,)
    word, feed, text = line.partition("\n")
    if feed and word == "publish":
        return (word, text)
    word, blank, rest = line.partition(" ")
    if blank and word in ("look", "who"):
        return (word, rest)
    if blank and word == "meet":
        return _two_heads(rest)
    if blank and word in BEHIND_NUMBERS:
        return _with_number(word, rest)
    return ()


def _two_heads(rest):
    heads = rest.split(" & ")
    if len(heads) != 2:
        return ()
    return ("meet", *heads)


def _with_number(word, rest):
    figures, sign, text = rest.partition(BEHIND_NUMBERS[word])
    if not sign or not is_number_text(figures):
        return ()
    return (word, int(figures), text)
