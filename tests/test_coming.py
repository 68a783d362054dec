import unittest

from aheadofholes.coming import may_come
from aheadofholes.houses import answers
from aheadofholes.rule import fate, is_book
from aheadofholes.sights import lore_of, sight
from aheadofholes.yards import Yard
from tests import plainly
from tests.books import BOOK, edition, filled, some_book
from tests.reference import read
from tests.samples import chance
from tests.test_houses import MANY
from tests.test_sights import chain_of_gifts


def seeing_all(book):
    """An edition of another line that sees all the book."""
    return ("zz", 1, tuple(sorted(made[:2] for made in book)), (), (), (), ())


class Coming(unittest.TestCase):
    def settled(self, book, text, *row):
        self.assertEqual(may_come(book, read(text)), ("settled", *row))

    def kept(self, book, form, line):
        """The line that keeps it is told, and its next edition, which would answer the form."""
        word, told, made = may_come(book, form)
        self.assertEqual((word, told), ("kept", line))
        self.assertTrue(plainly.is_edition(made))
        self.assertIsNone(plainly.refusal(book, made))
        self.assertEqual(made[:2], (line, 1 + len([other for other in book if other[0] == line])))
        self.assertEqual(sight(book, made), book)
        self.assertEqual((made[3:6], len(made[6]), made[6][0][0]), (((), (), ()), 1, form))
        self.assertEqual(fate(book, made, 0), ("home",))
        yard = Yard()
        for other in book + (made,):
            yard.publish(other)
        self.assertEqual(answers(yard.book(), form), (made[:2], 0))
        self.assertEqual(may_come(yard.book(), form), ("settled", made[:2], 0))
        return made

    def test_settled_by_the_row_that_answers(self):
        self.settled(MANY, "l.add(l.nil, l.nil)", ("l", 1), 0)
        self.settled(MANY, "l.add(l.s(l.nil), l.nil)", ("l", 1), 3)
        self.settled(MANY, "l.add(l.nil, l.two)", ("l", 2), 1)
        self.settled(MANY, "l.add(l.s(l.two), l.nil)", ("l", 2), 2)
        self.settled(MANY, "l.say(m.pair(l.nil, l.s(l.nil)))", ("m", 1), 1)
        self.settled(MANY, "l.add(m.pair(m.tri, l.nil), l.nil)", ("m", 2), 0)
        self.settled(MANY, "o.on(o.o)", ("o", 1), 0)
        self.assertEqual(may_come(book=MANY, form=read("o.on(o.o)")), ("settled", ("o", 1), 0))

    def test_kept_by_a_verb_that_was_never_given(self):
        self.kept(MANY, read("l.add(o.o, l.nil)"), "l")
        self.kept(MANY, read("o.on(l.nil)"), "o")
        self.kept(MANY, read("o.on(l.s(m.pair(o.o, l.two)))"), "o")
        made = self.kept((edition("l", 1, "", "", "now wide"),), read("l.now"), "l")
        self.assertEqual(made[:2], ("l", 2))
        book = (edition("l", 1, "", "nil", "f 0 deep"), edition("l", 2), edition("m", 1, "", "em"), edition("l", 3))
        self.kept(book, read("l.f(m.em)"), "l")

    def test_kept_by_whom_it_was_given_to(self):
        self.kept(BOOK, read("l.add(k.kay, l.nil)"), "n")
        self.kept(BOOK, read("k.say(l.nil)"), "k")
        self.kept(BOOK, read("m.mix(n.en, n.en)"), "m")
        self.kept(BOOK, read("n.nod(l.nil, m.pair(n.en, n.en), k.kay)"), "n")

    def test_kept_where_it_was_given_on_and_on_and_back(self):
        book = chain_of_gifts()
        for many, line in [(1, "l"), (2, "m"), (3, "k"), (4, "l"), (5, "m"), (6, "m"), (7, "m"), (8, "m")]:
            self.kept(book[:many], read("l.go(l.nil)"), line)
            self.kept(book[:many], read("l.stay(l.nil)"), "l")

    def test_kept_by_a_line_that_has_no_edition_yet(self):
        book = (edition("l", 1, "", "nil", "f 0 deep, g deep", "l.f new"), edition("k", 1, "l 1", "kay"))
        self.assertEqual(self.kept(book, read("l.f(k.kay)"), "new")[:2], ("new", 1))
        self.assertEqual(self.kept(book, read("l.g"), "l")[:2], ("l", 2))

    def test_a_gift_that_another_line_does_not_see(self):
        book = (edition("l", 1, "", "nil", "f 0 deep"), edition("k", 1, "l 1"), edition("l", 2, "", "", "", "l.f m"),
                edition("m", 1, "l 2"), edition("k", 2))
        self.kept(book, read("l.f(l.nil)"), "m")
        self.kept(book[:2], read("l.f(l.nil)"), "l")
        self.kept((book[0], book[2], book[1]), read("l.f(l.nil)"), "m")

    def test_given_to_its_own_line(self):
        book = (edition("l", 1, "", "nil", "f 0 deep"), edition("l", 2, "", "", "", "l.f l"))
        self.kept(book, read("l.f(l.nil)"), "l")

    def test_forms_by_chance(self):
        dice = chance(191)
        found = {"settled": 0, "kept": 0, "given": 0}
        for _ in range(50):
            book = some_book(dice, 8, 6)
            words, verbs = lore_of(book, seeing_all(book))
            plain = [(word[0],) for word in words if not word[1]]
            if plain:
                trees = plain + [(word[0], *[dice.choice(plain) for _ in word[1]]) for word in words]
                forms = [(verb[0], *[dice.choice(trees) for _ in verb[1]]) for verb in verbs]
                forms += [filled(dice, row[0], plain) for made in book for row in made[6]]
                for form in forms:
                    self.hold(book, form, found)
        self.assertGreater(min(found.values()), 20, found)

    def hold(self, book, form, found):
        row = plainly.answers(book, form)
        found["kept" if row is None else "settled"] += 1
        if row is not None:
            self.assertEqual(may_come(book, form), ("settled", *row))
        else:
            line = plainly.keeper(book, seeing_all(book), form[0])
            found["given"] += line != form[0].split(".")[0]
            self.kept(book, form, line)

    def test_the_same_is_told_again(self):
        for text in ["l.add(l.nil, l.nil)", "l.add(o.o, l.nil)"]:
            self.assertEqual(may_come(MANY, read(text)), may_come(MANY, read(text)))
        self.assertTrue(is_book(MANY))


if __name__ == "__main__":
    unittest.main()
