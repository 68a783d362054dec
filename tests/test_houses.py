import itertools
import unittest

from aheadofholes.errors import HoleError, NotOut
from aheadofholes.houses import answers, part, who
from aheadofholes.rule import is_book
from aheadofholes.sights import sight
from tests import plainly
from tests.books import BOOK, K_ONE, L_ONE, L_TWO, M_ONE, M_TWO, N_ONE, edition, filled, plain_words, some_book
from tests.reference import read
from tests.samples import Alike, Touchy, chance, some_form, things

# Four editions that see one another in a row, some of whose rows match the same forms, and a stranger to them all.
ROOTS = edition("l", 1, "", "nil, s 0", "add 0 1 deep, say 0 wide", "",
                "l.add(l.nil, x) = x; l.add(l.nil, l.nil) = l.nil; l.say(x) = x; l.add(l.s(x), y) = x")
PAIRS = edition("m", 1, "l 1", "pair 0 1", "", "", "l.add(m.pair(x, y), z) = x; l.say(m.pair(l.nil, x)) = x")
OWNERS = edition("l", 2, "m 1", "two", "", "", "l.add(l.two, x) = x; l.add(l.nil, l.two) = l.two; l.add(l.s(l.two), x) = x")
LATER = edition("m", 2, "l 2", "tri", "", "", "l.add(m.pair(m.tri, x), y) = y; l.add(m.pair(m.tri, x), x) = x;"
                " l.add(l.nil, m.tri) = m.tri")
STRANGER = edition("o", 1, "", "o", "on 0 deep", "", "o.on(o.o) = o.o")
MANY = (ROOTS, PAIRS, OWNERS, LATER, STRANGER)


class Parts(unittest.TestCase):
    def test_of_none(self):
        self.assertEqual(part(BOOK, ()), ())
        self.assertEqual(part((), ()), ())

    def test_of_one_key_all_that_it_sees(self):
        self.assertEqual(part(BOOK, (("l", 1),)), (L_ONE,))
        self.assertEqual(part(BOOK, (("l", 2),)), (L_ONE, L_TWO))
        self.assertEqual(part(BOOK, (("n", 1),)), (L_ONE, K_ONE, L_TWO, N_ONE))
        self.assertEqual(part(BOOK, (("m", 2),)), (L_ONE, K_ONE, M_ONE, M_TWO))
        self.assertEqual(part(book=BOOK, keys=(("k", 1),)), (K_ONE,))

    def test_of_several_in_any_order_and_twice(self):
        for keys, wanted in [
            ([("k", 1), ("l", 1)], (L_ONE, K_ONE)), ([("m", 1), ("k", 1)], (L_ONE, K_ONE, M_ONE)),
            ([("l", 2), ("m", 1), ("l", 2)], (L_ONE, M_ONE, L_TWO)), ([("n", 1), ("m", 2)], BOOK),
            ([("k", 1)] * 3, (K_ONE,)), ([made[:2] for made in BOOK], BOOK),
        ]:
            for turned in itertools.permutations(keys):
                self.assertEqual(part(BOOK, turned), wanted)

    def test_a_key_that_is_not_there(self):
        for keys, missing in [
            ((("z", 1),), ("z", 1)), ((("l", 3),), ("l", 3)), ((("l", 1), ("l", 3), ("z", 1)), ("l", 3)),
            ((("z", 1), ("l", 3)), ("z", 1)), ((("m", 2), ("m", 4), ("m", 3)), ("m", 4)), ((("l", 0),), ("l", 0)),
            ((("l", -1),), ("l", -1)), ((("n", 1), ("k", 1), ("k", 2)), ("k", 2)),
        ]:
            with self.assertRaises(NotOut) as caught:
                part(BOOK, keys)
            self.assertEqual(caught.exception.key, missing)
            self.assertIsInstance(caught.exception, HoleError)
        with self.assertRaises(NotOut):
            part((), (("l", 1),))

    def test_things_of_another_kind_are_not_there(self):
        near = [("l", True), ["l", 1], ("l", "1"), ("l",), ("l", 1, 1), (("l", 1),), "l", ("L", 1), (1, "l"), L_ONE]
        for thing in near + things() + [Alike(), Touchy(), ("l", Alike()), (Alike(), 1), ("l", [1])]:
            for keys in [(thing,), (("l", 1), thing), (thing, ("z", 1)), (("m", 2), thing, ("z", 1), None)]:
                with self.assertRaises(NotOut) as caught:
                    part(BOOK, keys)
                self.assertIs(caught.exception.key, thing)
            with self.assertRaises(NotOut) as caught:
                part(BOOK, (("z", 1), thing))
            self.assertEqual(caught.exception.key, ("z", 1))

    def test_a_part_is_a_house_and_the_least_one(self):
        dice = chance(101)
        for _ in range(60):
            book = some_book(dice, 8, 2)
            keys = tuple(made[:2] for made in dice.choices(book, k=dice.randrange(4)))
            house = part(book, keys)
            self.assertTrue(is_book(house))
            wanted = set(keys).union(*[plainly.keys_seen(book, made) for made in book if made[:2] in keys])
            self.assertEqual(house, tuple(made for made in book if made[:2] in wanted))
            for made in house:
                self.assertEqual(sight(house, made), sight(book, made))


class Who(unittest.TestCase):
    def test_the_book_that_is_asked_is_one(self):
        self.assertTrue(plainly.is_book(MANY))

    def test_forms_that_no_row_matches(self):
        for text in ["l.add(l.two, l.nil, l.nil)", "l.add(o.o, l.nil)", "l.add", "l.nil", "o.on(l.nil)", "z.zed", "z.add(l.nil)",
                     "o.on", "o.on(o.o(l.nil))"]:
            self.assertEqual(who(MANY, read(text)), (), text)
            self.assertIsNone(answers(MANY, read(text)), text)
        self.assertEqual(who((), read("l.nil")), ())
        self.assertIsNone(answers((), read("l.nil")))

    def test_forms_that_one_row_matches(self):
        for text, found in [("l.add(l.s(l.nil), l.nil)", (("l", 1), 3)), ("o.on(o.o)", (("o", 1), 0)),
                            ("l.add(l.nil, l.s(l.nil))", (("l", 1), 0)), ("l.add(m.pair(l.nil, l.nil), l.nil)", (("m", 1), 0)),
                            ("l.add(l.two, l.two)", (("l", 2), 0))]:
            self.assertEqual(who(MANY, read(text)), (found,), text)
            self.assertEqual(answers(MANY, read(text)), found, text)

    def test_several_rows_of_one_edition(self):
        self.assertEqual(who(MANY, read("l.add(l.nil, l.nil)")), ((("l", 1), 0), (("l", 1), 1)))
        self.assertEqual(answers(MANY, read("l.add(l.nil, l.nil)")), (("l", 1), 0))
        self.assertEqual(who(book=MANY, form=read("l.say(m.pair(l.nil, l.nil))")), ((("l", 1), 2), (("m", 1), 1)))

    def test_rows_of_several_editions_that_see_one_another(self):
        for text, found, row in [
            ("l.say(m.pair(l.nil, l.s(l.nil)))", ((("l", 1), 2), (("m", 1), 1)), (("m", 1), 1)),
            ("l.add(l.nil, l.two)", ((("l", 1), 0), (("l", 2), 1)), (("l", 2), 1)),
            ("l.add(l.s(l.two), l.nil)", ((("l", 1), 3), (("l", 2), 2)), (("l", 2), 2)),
            ("l.add(m.pair(m.tri, l.nil), l.nil)", ((("m", 1), 0), (("m", 2), 0), (("m", 2), 1)), (("m", 2), 0)),
            ("l.add(m.pair(m.tri, l.nil), l.two)", ((("m", 1), 0), (("m", 2), 0)), (("m", 2), 0)),
            ("l.add(l.nil, m.tri)", ((("l", 1), 0), (("m", 2), 2)), (("m", 2), 2)),
        ]:
            self.assertEqual(who(MANY, read(text)), found, text)
            self.assertEqual(answers(MANY, read(text)), row, text)
            self.assertEqual(answers(book=MANY, form=read(text)), row, text)

    def test_in_lesser_houses(self):
        form = read("l.add(m.pair(m.tri, l.nil), l.nil)")
        self.assertEqual(answers(MANY[:3], form), (("m", 1), 0))
        self.assertIsNone(answers(MANY[:1], form))
        self.assertEqual(answers(part(MANY, (("m", 2),)), form), (("m", 2), 0))

    def test_names_that_nobody_tells(self):
        self.assertEqual(who(MANY, read("l.add(l.nil, z.zed)")), ((("l", 1), 0),))
        self.assertEqual(answers(MANY, read("l.say(z.zed(z.zed, l.nope))")), (("l", 1), 2))
        self.assertEqual(answers(MANY, read("l.add(m.pair(z.zed, l.add), o.on(o.on))")), (("m", 1), 0))

    def test_many_forms_as_told_plainly(self):
        dice = chance(102)
        several = 0
        for _ in range(40):
            book = some_book(dice, 10, 6)
            heads = [row[0] for made in book for row in made[6]]
            for head in heads[:40]:
                form = filled(dice, head, plain_words(book) + [some_form(dice, 2)])
                found = who(book, form)
                self.assertEqual(found, plainly.who(book, form))
                self.assertEqual(answers(book, form), plainly.answers(book, form))
                several += len({key for key, _ in found}) > 1
        self.assertGreater(several, 20)


if __name__ == "__main__":
    unittest.main()
