import unittest

from aheadofholes.editions import is_edition
from aheadofholes.errors import HoleError, NoText, NotBook
from aheadofholes.texts import read_book, read_edition, show_book, show_edition
from tests import plainly
from tests.books import BOOK, K_ONE, L_ONE, L_TWO, M_ONE, edition, rows, some_book, some_edition, with_field
from tests.samples import Alike, Touchy, chance, things
from tests.works import WORK

FULL = edition("abc", 12, "a 3, abc 9, abc 10, zz 1", "a, b 0, c 1 0, d 2 0 1", "v deep, w 0 wide, x 0 1 2 deep, y 1 0 wide",
               "abc.v m, k.v abc", "abc.w(x) = x; abc.v = abc.b(abc.a); abc.x(x, y, x) = abc.d(y, abc.c(x, z), abc.a)")
FULL_TEXT = """edition abc 12
sees a 3
sees abc 9
sees abc 10
sees zz 1
word abc.a
word abc.b 0
word abc.c 1 0
word abc.d 2 0 1
verb abc.v deep
verb abc.w wide 0
verb abc.x deep 0 1 2
verb abc.y wide 1 0
gives abc.v m
gives k.v abc
row abc.w(x) = x
row abc.v = abc.b(abc.a)
row abc.x(x, y, x) = abc.d(y, abc.c(x, z), abc.a)"""
BOOK_TEXT = """edition l 1
word l.nil
word l.s 0
verb l.add deep 0 1
row l.add(l.nil, x) = x
row l.add(l.s(x), y) = l.s(l.add(x, y))

edition k 1
word k.kay
verb k.say wide 0
row k.say(k.kay) = k.kay

edition m 1
sees l 1
word m.pair 1 0
row l.add(m.pair(x, y), z) = m.pair(y, z)

edition l 2
gives l.add n

edition n 1
sees k 1
sees l 2
word n.en
verb n.nod wide 2 0 1
row k.say(n.en) = l.nil

edition m 2
sees k 1
verb m.mix deep 1 0
row m.mix(m.pair(x, l.nil), k.kay) = x"""

# Each is nearly the text of an edition: something in it stands otherwise than it is written.
NEARLY = [
    "", " ", "\n", "none", "edition", "edition ", "edition l", "edition l ", "edition  l 1", "edition l  1", " edition l 1",
    "edition l 1 ", "edition l 1\n", "\nedition l 1", "edition l 1\n\n", "edition l 1 1", "edition l 1 x", "edition l 0",
    "edition l 01", "edition l 1.", "edition l -1", "edition l +1", "edition l one", "edition L 1", "edition abcdefghi 1", "edition l.a 1",
    "edition  1", "edition 1 l", "edition l 1000000", "edition l 1000001", "edition l 0000001", "edition l 1_0", "edition l \u0661",
    "edition l \u00b9", "Edition l 1", "editions l 1", "edition\tl 1", "edition l\t1", "edition l 1\r", "edition\nl 1", "edition l\n1",
    "edition l 1\nsees", "edition l 1\nsees ", "edition l 1\nsees a", "edition l 1\nsees a ", "edition l 1\nsees a 0",
    "edition l 1\nsees a 1 ", "edition l 1\nsees  a 1", "edition l 1\nsees a  1", "edition l 1\nsees a 01", "edition l 1\nsees a 1 b 2",
    "edition l 1\nsees a 1\nsees a 1", "edition l 1\nsees b 1\nsees a 1", "edition l 1\nsees a 10\nsees a 9", "edition l 1\nsees a 1, b 1",
    "edition l 1\nsees a 1000000", "edition l 1\nsees a.b 1", "edition l 1\n sees a 1", "edition l 1\nsee a 1", "edition l 1\nsees",
    "edition l 1\nword", "edition l 1\nword ", "edition l 1\nword l.a ", "edition l 1\nword  l.a", "edition l 1\nword l.a  0",
    "edition l 1\nword l.a 0 ", "edition l 1\nword l.a 1", "edition l 1\nword l.a 0 0", "edition l 1\nword l.a 0 2", "edition l 1\nword l.a 00",
    "edition l 1\nword l.a 0, 1", "edition l 1\nword l.a 01", "edition l 1\nword l.a 0 1 2 3", "edition l 1\nword m.a", "edition l 1\nword a",
    "edition l 1\nword l.a l.b", "edition l 1\nword l.b\nword l.a", "edition l 1\nword l.a\nword l.a", "edition l 1\nword l.a\nword l.a 0",
    "edition l 1\nword l.a deep", "edition l 1\nword l.a(x)", "edition l 1\nword l.a -0", "edition l 1\nword l.a 1 0 0", "edition l 1\nword l.a 000000",
    "edition l 1\nverb", "edition l 1\nverb l.v", "edition l 1\nverb l.v ", "edition l 1\nverb l.v deep ", "edition l 1\nverb l.v  deep",
    "edition l 1\nverb l.v deep  0", "edition l 1\nverb l.v Deep", "edition l 1\nverb l.v high", "edition l 1\nverb l.v 0 deep",
    "edition l 1\nverb l.v 0", "edition l 1\nverb m.v deep", "edition l 1\nverb l.v deep 1", "edition l 1\nverb l.v deep 0 1 2 3",
    "edition l 1\nverb l.w deep\nverb l.v deep", "edition l 1\nverb l.v deep\nverb l.v wide", "edition l 1\nword l.v\nverb l.v deep",
    "edition l 1\nverb l.v deep\nword l.a", "edition l 1\ngives", "edition l 1\ngives l.v", "edition l 1\ngives l.v ", "edition l 1\ngives l.v m ",
    "edition l 1\ngives  l.v m", "edition l 1\ngives l.v  m", "edition l 1\ngives l.v m n", "edition l 1\ngives v m", "edition l 1\ngives l.v l.m",
    "edition l 1\ngives l.w m\ngives l.v m", "edition l 1\ngives l.v m\ngives l.v n", "edition l 1\ngives l.v m\nsees a 1",
    "edition l 1\ngives l.v M", "edition l 1\nrow", "edition l 1\nrow ", "edition l 1\nrow l.v", "edition l 1\nrow l.v =", "edition l 1\nrow l.v = ",
    "edition l 1\nrow  = l.v", "edition l 1\nrow = l.v", "edition l 1\nrow l.v=l.a", "edition l 1\nrow l.v =l.a", "edition l 1\nrow l.v= l.a",
    "edition l 1\nrow l.v  = l.a", "edition l 1\nrow l.v =  l.a", "edition l 1\nrow  l.v = l.a", "edition l 1\nrow l.v = l.a ",
    "edition l 1\nrow l.v = l.a = l.b", "edition l 1\nrow x = x", "edition l 1\nrow x = l.a", "edition l 1\nrow l.v() = l.a",
    "edition l 1\nrow l.v(x,y) = x", "edition l 1\nrow l.v(x, y = x", "edition l 1\nrow l.v(x)) = x", "edition l 1\nrow l.v(w, x, y, z) = x",
    "edition l 1\nrow v(x) = x", "edition l 1\nrow l.v(x) = x y", "edition l 1\nrow l.v(x) == x", "edition l 1\nrow l.v(X) = l.a",
    "edition l 1\nrow l.v = l.a\n", "edition l 1\nrow l.v = l.a\nverb l.v deep", "edition l 1\nrow l.v = l.a\nedition l 2", "edition l 1\n\nrow l.v = l.a",
    "edition l 1\nedition l 1", "edition l 1\nnote l.a", "edition l 1\n row l.v = l.a", "edition l 1\nrow l.v\n= l.a", "edition l 1\nrow l.v = l.a\n\n",
    "edition l 1\nrows l.v = l.a", "edition l 1\nwords l.a", "row l.v = l.a", "sees a 1", "edition l 1\nrow (l.v) = l.a",
]
RIGHT = ["edition l 1", "edition abcdefgh 999999", "edition l 100000", "edition l 1\nsees l 1", "edition l 1\nsees a 9\nsees a 10",
         "edition l 1\nword l.a 2 1 0", "edition l 1\nverb l.v wide 1 2 0", "edition l 1\ngives k.v l\ngives l.v k", "edition l 1\nrow l.v = x",
         "edition l 1\nrow l.v(x) = z.z(y)\nrow l.v(x) = z.z(y)", "edition l 2\nsees a 999999\nword l.a\nverb l.b deep\ngives q.q q\nrow z.z = x"]


class Editions(unittest.TestCase):
    def test_just_so_written(self):
        self.assertEqual(show_edition(FULL), FULL_TEXT)
        self.assertEqual(read_edition(FULL_TEXT), FULL)
        self.assertEqual(show_edition(edition=edition("l", 1)), "edition l 1")
        self.assertEqual(read_edition(text="edition l 1"), ("l", 1, (), (), (), (), ()))
        for made, text in zip(BOOK, BOOK_TEXT.split("\n\n")):
            self.assertEqual(show_edition(made), text)
            self.assertEqual(read_edition(text), made)

    def test_read_back_as_it_was(self):
        dice = chance(241)
        for _ in range(300):
            book = some_book(dice, dice.randrange(4), 4)
            made = some_edition(dice, book, 9)
            text = show_edition(made)
            self.assertEqual(text, plainly.edition_text(made))
            self.assertEqual(read_edition(text), made)
            self.assertEqual(plainly.edition_of(text), made)

    def test_right_ones(self):
        for text in RIGHT:
            self.assertEqual(show_edition(read_edition(text)), text)
            self.assertEqual(read_edition(text), plainly.edition_of(text))

    def test_nearly_ones(self):
        for text in NEARLY:
            with self.assertRaises(NoText, msg=text) as caught:
                read_edition(text)
            self.assertIsInstance(caught.exception, HoleError)
            self.assertIsNone(plainly.edition_of(text), text)

    def test_a_sign_out_put_in_or_in_anothers_place(self):
        read = 0
        for text in [FULL_TEXT, BOOK_TEXT.split("\n\n")[4], *RIGHT]:
            for at in range(len(text) + 1):
                for other in [text[:at] + text[at + 1:]] + [text[:at] + sign + text[at + then:] for sign in "\n =(),.a1 0dL&"
                                                           for then in (0, 1)]:
                    read += self.is_read_right(other)
        self.assertGreater(read, 500)

    def is_read_right(self, text):
        """Whether it is the text of an edition; held against the plain way to read it."""
        told = plainly.caught(read_edition, text)
        wanted = plainly.edition_of(text)
        self.assertEqual(told, ("NoText",) if wanted is None else wanted, text)
        if wanted is not None:
            self.assertEqual(show_edition(wanted), text)
        return wanted is not None

    def test_a_row_out_twice_or_exchanged(self):
        read = [0, 0]
        for text in [FULL_TEXT, *BOOK_TEXT.split("\n\n"), *RIGHT]:
            told = text.split("\n")
            ways = [told[:at] + told[at + 1:] for at in range(len(told))]
            ways += [told[:at] + told[at:at + 1] + told[at:] for at in range(len(told))]
            ways += [told[:at] + told[then:then + 1] + told[at + 1:then] + told[at:at + 1] + told[then + 1:]
                     for then in range(len(told)) for at in range(then)]
            ways += [told[:at] + [row] + told[at:] for at in range(len(told) + 1)
                     for row in ["", " ", "none", "sees l 1", "word abc.z", "verb abc.z deep", "gives z.z z", "row z.z = z", "edition l 1"]]
            ways += [told[:at] + [way] + told[at + 1:] for at, row in enumerate(told)
                     for way in [row + " ", " " + row, row.replace(" ", "  "), row.replace(" ", "  ", 1), row.upper(), row + "\r"]]
            for way in ways:
                read[self.is_read_right("\n".join(way))] += 1
        self.assertGreater(min(read), 50)

    def test_figures(self):
        for figures, right in [("1", True), ("9", True), ("10", True), ("999999", True), ("1000000", False), ("0", False), ("00", False),
                               ("01", False), ("0999999", False), ("1" * 4000, False), ("1" * 19000, False), ("\u0967", False)]:
            for text in [f"edition l {figures}", f"edition l 1\nsees k {figures}"]:
                self.assertIs(self.is_read_right(text), right)
        for figures, right in [("0", True), ("00", False), ("1", False), ("-0", False), ("+0", False), ("0 1", True), ("1 01", False)]:
            self.assertIs(self.is_read_right(f"edition l 1\nword l.a {figures}"), right)
            self.assertIs(self.is_read_right(f"edition l 1\nverb l.a deep {figures}"), right)

    def test_long_texts(self):
        many = "\n".join(f"row l.v(l.s({'l.s(' * 15}x{')' * 15}), y) = l.s(l.v({'l.s(' * 15}x{')' * 15}, y))" for _ in range(20))
        text = "edition l 1\nword l.s 0\nverb l.v deep 0 1\n" + many
        self.assertTrue(self.is_read_right(text))
        for text in ["edition l 1\nrow " + "l.s(" * 4000, "edition l 1\nrow " + "l.s(" * 4000 + "x" + ")" * 4000 + " = x", "(" * 20000,
                     "edition l 1\n" * 1600, " " * 20000, "\n" * 20000, "edition l 1\nrow l.v = " + "l.s(" * 4900]:
            with self.assertRaises(NoText):
                read_edition(text)
            with self.assertRaises(NoText):
                read_book(text)

    def test_things_of_any_kind(self):
        for thing in things() + [FULL, FULL_TEXT.encode(), [FULL_TEXT], FULL_TEXT.split("\n"), Alike(), Touchy()]:
            for read in (read_edition, read_book):
                with self.assertRaises(NoText):
                    read(thing)


class Books(unittest.TestCase):
    def test_just_so_written(self):
        self.assertEqual(show_book(BOOK), BOOK_TEXT)
        self.assertEqual(read_book(BOOK_TEXT), BOOK)
        self.assertEqual(show_book(book=(L_ONE,)), BOOK_TEXT.split("\n\n")[0])
        self.assertEqual(read_book(text="edition l 1\n\nedition k 1"), (edition("l", 1), edition("k", 1)))

    def test_none(self):
        self.assertEqual((show_book(()), read_book("none")), ("none", ()))
        for text in ["", " ", "none ", " none", "none\n", "None", "none\n\nnone", "none\n\nedition l 1", "edition l 1\n\nnone", "non"]:
            with self.assertRaises(NoText):
                read_book(text)

    def test_read_back_as_it_was(self):
        dice = chance(242)
        for many in list(range(8)) * 6:
            book = some_book(dice, many, 5)
            self.assertEqual(show_book(book), plainly.book_text(book))
            self.assertEqual(read_book(show_book(book)), book)
        self.assertEqual(read_book(show_book(WORK)), WORK)

    def refused(self, text, name, *values):
        self.assertEqual(plainly.caught(read_book, text), (name, *values), text)
        self.assertEqual(plainly.book_of(text), (name, *values), text)

    def test_no_book_with_the_first_that_is_not_let_by(self):
        for book, number in [
            ((M_ONE,), 0), ((L_TWO,), 0), ((L_ONE, L_ONE), 1), ((L_ONE, K_ONE, L_ONE), 2), ((K_ONE, M_ONE, L_TWO), 1),
            ((L_ONE, L_TWO, L_TWO, M_ONE, M_ONE), 2), ((L_ONE, edition("m", 1, "", "", "", "", "l.add(x, y) = x")), 1),
            (BOOK + (edition("l", 3, "", "nil"),), 6), (BOOK + (edition("l", 3, "", "", "", "", "l.add(x, y) = x"), L_ONE), 6),
            (BOOK + (edition("l", 3, "", "", "", "l.add m"),), 6), ((edition("l", 1, "", "", "v 0 deep", "", "l.v(x) = y"),), 0),
            (BOOK[:1] + (edition("l", 2, "", "", "", "", "l.add(l.nil, l.nil) = l.nil"),), 1), ((edition("z", 999999),), 0),
        ]:
            self.refused(show_book(book), "NotBook", number)
            with self.assertRaises(NotBook) as caught:
                read_book(show_book(book))
            self.assertEqual(vars(caught.exception), {"number": number})
            self.assertIsInstance(caught.exception, HoleError)

    def test_no_text_ahead_of_no_book(self):
        self.refused(show_book((M_ONE, L_ONE)) + "\n", "NoText")
        self.refused(show_book((M_ONE, L_ONE)) + "\n\nedition l 0", "NoText")
        self.refused(show_book((M_ONE,)) + "\n\nedition", "NoText")
        self.refused("edition l 7\n\nedition l 8 ", "NoText")
        self.refused("edition l 7\n\nedition l 8", "NotBook", 0)

    def test_empty_rows(self):
        for text in [BOOK_TEXT.replace("\n\n", "\n\n\n", 1), BOOK_TEXT.replace("\n\n", "\n", 1), BOOK_TEXT + "\n", BOOK_TEXT + "\n\n",
                     "\n" + BOOK_TEXT, "\n\n" + BOOK_TEXT, BOOK_TEXT.replace("\n\n", "\n \n", 1), BOOK_TEXT.replace("\n\n", " \n\n", 1),
                     BOOK_TEXT.replace("\n\n", "\n\n ", 1), BOOK_TEXT.replace("\nverb", "\n\nverb", 1), BOOK_TEXT.replace("\n", "\r\n")]:
            self.refused(text, "NoText")

    def test_a_sign_out_put_in_or_in_anothers_place(self):
        dice = chance(243)
        found = {}
        for text in [BOOK_TEXT, show_book(BOOK[:3]), "none", "edition l 1\n\nedition l 2\n\nedition m 1"]:
            for at in range(len(text) + 1):
                for sign in ["", *dice.sample("\n =(),.ayl120d", 4)]:
                    for then in (0, 1):
                        self.is_read_right(text[:at] + sign + text[at + then:], found)
        self.assertGreater(min(found.values()), 20, found)
        self.assertEqual(set(found), {"NoText", "NotBook", "book"})

    def is_read_right(self, text, found):
        told = plainly.caught(read_book, text)
        self.assertEqual(told, plainly.book_of(text), text)
        word = told[0] if told and told[0] in ("NoText", "NotBook") else "book"
        found[word] = found.get(word, 0) + 1

    def test_editions_out_twice_and_exchanged(self):
        dice = chance(244)
        found = {}
        for _ in range(60):
            book = list(some_book(dice, 5, 3))
            at, then = dice.sample(range(5), 2)
            for way in [book[:at] + book[at + 1:], book[:at] + book[at:at + 1] + book[at:], book[:at] + book[then:then + 1] + book[at:]]:
                self.is_read_right(show_book(way), found)
        self.assertGreater(min(found.values()), 10, found)

    def test_what_is_handed_in_stays_as_it_was(self):
        made = with_field(FULL, 6, rows("abc.w(x) = x"))
        self.assertEqual(show_edition(made), show_edition(made))
        self.assertEqual(show_book((made,)), show_edition(made))
        self.assertTrue(is_edition(made) and is_edition(FULL))


if __name__ == "__main__":
    unittest.main()
