"""Editions and books for the tests: by hand from short texts, and made by a seeded chance."""
from aheadofholes.rule import fate, is_let_by
from aheadofholes.sights import keeper, lore_of
from tests.reference import read


def split(text, sign=","):
    return [piece.strip() for piece in text.split(sign) if piece.strip()]


def keys(text):
    return tuple((piece.split()[0], int(piece.split()[1])) for piece in split(text))


def order(words):
    return tuple(int(word) for word in words)


def rows(text):
    return tuple(tuple(read(side) for side in piece.split("=")) for piece in split(text, ";"))


def edition(line, number, sees="", words="", verbs="", gives="", answers=""):
    """Of texts like: "l 1, m 2", "nil, cons 1 0", "add 0 1 deep", "l.add m", "l.add(l.nil, x) = x; ..".

    All stands as it is written, also where it doesn't rise.
    """
    told = [piece.split() for piece in split(words)]
    asked = [piece.split() for piece in split(verbs)]
    return (
        line, number, keys(sees),
        tuple((f"{line}.{name}", order(numbers)) for name, *numbers in told),
        tuple((f"{line}.{name}", order(numbers), way) for name, *numbers, way in asked),
        tuple(tuple(piece.split()) for piece in split(gives)),
        rows(answers),
    )


def with_rows(made, text):
    return made[:6] + (rows(text),)


def with_field(made, at, worth):
    return made[:at] + (worth,) + made[at + 1:]


L_ONE = edition("l", 1, "", "nil, s 0", "add 0 1 deep", "", "l.add(l.nil, x) = x; l.add(l.s(x), y) = l.s(l.add(x, y))")
K_ONE = edition("k", 1, "", "kay", "say 0 wide", "", "k.say(k.kay) = k.kay")
M_ONE = edition("m", 1, "l 1", "pair 1 0", "", "", "l.add(m.pair(x, y), z) = m.pair(y, z)")
L_TWO = edition("l", 2, "", "", "", "l.add n")
N_ONE = edition("n", 1, "k 1, l 2", "en", "nod 2 0 1 wide", "", "k.say(n.en) = l.nil")
M_TWO = edition("m", 2, "k 1", "", "mix 1 0 deep", "", "m.mix(m.pair(x, l.nil), k.kay) = x")

BOOK = (L_ONE, K_ONE, M_ONE, L_TWO, N_ONE, M_TWO)

LINES = ["l", "m", "k"]


def next_number(book, line):
    return 1 + len([other for other in book if other[0] == line])


def some_order(dice, most):
    numbers = list(range(dice.randrange(most + 1)))
    dice.shuffle(numbers)
    return tuple(numbers)


def some_names(dice, line, number):
    """Some unlike full names, which its line hasn't told ahead, in any order."""
    letters = dice.sample("abcdefgh", dice.randrange(4))
    return sorted(f"{line}.{letter}{'abcdefghijklmnopqrstuvwxyz'[number % 26]}" for letter in letters)


def some_tree(dice, words, depth, holes):
    fitting = [word for word in words if depth > 1 or not word[1]]
    if not fitting or dice.random() < holes:
        return dice.choice("xyz")
    word = dice.choice(fitting)
    return (word[0], *[some_tree(dice, words, depth - 1, holes) for _ in word[1]])


def some_rows(dice, lore, most):
    """Rows of a lore, some of which are forms; their answers are told loosely at times."""
    words, verbs = lore
    if not verbs:
        return ()
    found = []
    for _ in range(dice.randrange(most + 1)):
        verb = dice.choice(verbs)
        holes = dice.choice([0, 0, 0.1, 0.3])
        head = (verb[0], *[some_tree(dice, words, dice.choice([1, 2, 3]), holes) for _ in verb[1]])
        found.append((head, dice.choice([head, head, *head[1:]])))
    return tuple(found)


def some_gives(dice, book, made, lore):
    kept = [verb[0] for verb in lore[1] if keeper(book, made, verb[0]) == made[0]]
    given = sorted(verb for verb in kept if dice.random() < 0.25)
    return tuple((verb, dice.choice(LINES + ["n"])) for verb in given)


def some_edition(dice, book, most_rows=5):
    """An edition that the book lets by, but perhaps for its rows' fates."""
    line = dice.choice(LINES)
    number = next_number(book, line)
    sees = tuple(sorted(other[:2] for other in book if dice.random() < 0.3))
    names = some_names(dice, line, number)
    cut = dice.randrange(len(names) + 1)
    words = tuple((name, some_order(dice, dice.choice([0, 2, 3]))) for name in names[:cut])
    verbs = tuple((name, some_order(dice, 3), dice.choice(["deep", "wide"])) for name in names[cut:])
    made = (line, number, sees, words, verbs, (), ())
    lore = lore_of(book, made)
    return made[:5] + (some_gives(dice, book, made, lore), some_rows(dice, lore, most_rows))


def plain_words(book):
    """The trees of the words without parts that the editions tell."""
    return [(word[0],) for made in book for word in made[3] if not word[1]]


def filled(dice, head, trees):
    """The head with some of these trees in the places of its holes, also of one that comes again."""
    if type(head) is str:
        return dice.choice(trees)
    return (head[0], *[filled(dice, inner, trees) for inner in head[1:]])


def let_by_rows(book, made):
    """The edition with those of its rows alone that are own or home."""
    kept = [row for number, row in enumerate(made[6]) if fate(book, made, number)[0] in ("own", "home")]
    return made[:6] + (tuple(kept),)


def some_book(dice, many, most_rows=5):
    book = ()
    for _ in range(many):
        made = let_by_rows(book, some_edition(dice, book, most_rows))
        assert is_let_by(book, made), made
        book += (made,)
    return book
