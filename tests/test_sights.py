import unittest

from aheadofholes.lores import is_lore
from aheadofholes.rule import is_let_by
from aheadofholes.sights import keeper, lore_of, sight
from tests import plainly
from tests.books import BOOK, K_ONE, L_ONE, L_TWO, M_ONE, M_TWO, N_ONE, edition, some_book, some_edition
from tests.samples import chance


def keys_of(editions):
    return " ".join(f"{made[0]}{made[1]}" for made in editions)


def chain_of_gifts():
    """l tells a verb and gives it to m, which gives it to k, which gives it back, and l gives it to m again."""
    return (
        edition("l", 1, "", "nil", "go 0 deep, stay 0 deep"),
        edition("l", 2, "", "", "", "l.go m"),
        edition("m", 1, "l 2", "", "", "l.go k"),
        edition("k", 1, "m 1", "", "", "l.go l"),
        edition("l", 3, "k 1", "", "", "l.go m"),
        edition("n", 1, "m 1"),
        edition("n", 2, "l 3"),
        edition("o", 1, "l 1"),
    )


class Sights(unittest.TestCase):
    def test_sees_and_what_these_see(self):
        self.assertEqual(sight(BOOK, L_ONE), ())
        self.assertEqual(sight(BOOK, K_ONE), ())
        self.assertEqual(sight(BOOK, M_ONE), (L_ONE,))
        self.assertEqual(sight(BOOK, N_ONE), (L_ONE, K_ONE, L_TWO))
        self.assertEqual(sight(book=BOOK, edition=M_ONE), (L_ONE,))

    def test_its_lines_lesser_numbers_without_naming_them(self):
        self.assertEqual(L_TWO[2], ())
        self.assertEqual(sight(BOOK, L_TWO), (L_ONE,))
        self.assertEqual(sight(BOOK, M_TWO), (L_ONE, K_ONE, M_ONE))
        book = (edition("a", 1), edition("b", 1, "a 1"), edition("b", 2), edition("b", 3), edition("c", 1, "b 3"))
        self.assertEqual(keys_of(sight(book, book[3])), "a1 b1 b2")
        self.assertEqual(keys_of(sight(book, book[4])), "a1 b1 b2 b3")

    def test_sees_of_sees(self):
        book = tuple(edition(line, 1, sees) for line, sees in [("a", ""), ("b", "a 1"), ("c", "b 1"), ("d", "c 1"),
                                                                ("e", "d 1")])
        self.assertEqual([keys_of(sight(book, made)) for made in book], ["", "a1", "a1 b1", "a1 b1 c1", "a1 b1 c1 d1"])

    def test_strangers(self):
        book = (edition("a", 1), edition("b", 1), edition("c", 1, "a 1"), edition("d", 1, "a 1"), edition("e", 1, "c 1, d 1"))
        self.assertEqual([keys_of(sight(book, made)) for made in book], ["", "", "a1", "a1", "a1 c1 d1"])

    def test_an_edition_that_is_not_out_yet(self):
        self.assertEqual(sight(BOOK, edition("z", 1)), ())
        self.assertEqual(sight(BOOK, edition("z", 1, "m 2")), (L_ONE, K_ONE, M_ONE, M_TWO))
        self.assertEqual(sight(BOOK, edition("m", 3)), (L_ONE, K_ONE, M_ONE, M_TWO))
        self.assertEqual(sight(BOOK, edition("k", 2, "n 1")), (L_ONE, K_ONE, L_TWO, N_ONE))
        self.assertEqual(sight(BOOK[:1], M_ONE), (L_ONE,))
        self.assertEqual(sight((), K_ONE), ())

    def test_the_books_order(self):
        turned = (K_ONE, L_ONE, L_TWO, N_ONE, M_ONE, M_TWO)
        self.assertEqual(sight(turned, N_ONE), (K_ONE, L_ONE, L_TWO))
        self.assertEqual(sight(turned, M_TWO), (K_ONE, L_ONE, M_ONE))
        self.assertEqual(sight(turned, edition("z", 1, "m 1, n 1")), (K_ONE, L_ONE, L_TWO, N_ONE, M_ONE))

    def test_more_than_nine_of_a_line(self):
        book = tuple(edition("l", number) for number in range(1, 13))
        self.assertEqual(sight(book, book[11]), book[:11])
        self.assertEqual(sight(book, edition("m", 1, "l 11")), book[:11])


class Lores(unittest.TestCase):
    def test_words_and_verbs_of_several_lines_rising_with_its_own(self):
        self.assertEqual(lore_of(BOOK, L_ONE), ((("l.nil", ()), ("l.s", (0,))), (("l.add", (0, 1), "deep"),)))
        self.assertEqual(lore_of(BOOK, M_TWO), (
            (("k.kay", ()), ("l.nil", ()), ("l.s", (0,)), ("m.pair", (1, 0))),
            (("k.say", (0,), "wide"), ("l.add", (0, 1), "deep"), ("m.mix", (1, 0), "deep"))))
        self.assertEqual(lore_of(BOOK, N_ONE), (
            (("k.kay", ()), ("l.nil", ()), ("l.s", (0,)), ("n.en", ())),
            (("k.say", (0,), "wide"), ("l.add", (0, 1), "deep"), ("n.nod", (2, 0, 1), "wide"))))
        self.assertEqual(lore_of(book=BOOK, edition=K_ONE), ((("k.kay", ()),), (("k.say", (0,), "wide"),)))

    def test_an_edition_that_is_not_out_yet(self):
        made = edition("a", 1, "n 1", "aye", "zag wide")
        words, verbs = lore_of(BOOK, made)
        self.assertEqual([told[0] for told in words], ["a.aye", "k.kay", "l.nil", "l.s", "n.en"])
        self.assertEqual([told[0] for told in verbs], ["a.zag", "k.say", "l.add", "n.nod"])
        self.assertEqual(lore_of((), edition("a", 1)), ((), ()))
        self.assertEqual(lore_of(BOOK, edition("a", 1)), ((), ()))

    def test_names_of_a_line_rise_whichever_edition_tells_them(self):
        book = (edition("l", 1, "", "z, zz", "y deep"), edition("l", 2, "", "a, m", "b wide, x deep"))
        words, verbs = lore_of(book, edition("l", 3, "", "n", "c deep"))
        self.assertEqual([told[0] for told in words], ["l.a", "l.m", "l.n", "l.z", "l.zz"])
        self.assertEqual([told[0] for told in verbs], ["l.b", "l.c", "l.x", "l.y"])


class Keepers(unittest.TestCase):
    def test_a_verb_that_was_never_given(self):
        book = chain_of_gifts()
        for made in book:
            self.assertEqual(keeper(book, made, "l.stay"), "l")
        self.assertEqual(keeper(BOOK, M_TWO, "m.mix"), "m")
        self.assertEqual(keeper(BOOK, M_TWO, "l.add"), "l")
        self.assertEqual(keeper(book=BOOK, edition=M_TWO, verb="k.say"), "k")

    def test_given_on_and_on_and_back(self):
        book = chain_of_gifts()
        for number in range(len(book)):
            self.assertTrue(is_let_by(book[:number], book[number]))
        self.assertEqual([keeper(book, made, "l.go") for made in book], ["l", "l", "m", "k", "l", "k", "m", "l"])

    def test_as_one_sees_it_that_does_not_see_the_gift(self):
        book = chain_of_gifts()
        for sees, line in [("", "l"), ("l 1", "l"), ("l 2", "m"), ("m 1", "k"), ("k 1", "l"), ("l 3", "m"), ("n 1", "k"),
                           ("n 2", "m"), ("o 1", "l")]:
            self.assertEqual(keeper(book, edition("z", 1, sees), "l.go"), line, sees)

    def test_its_own_gives_do_not_count(self):
        book = chain_of_gifts()
        self.assertEqual(book[1][5], (("l.go", "m"),))
        self.assertEqual(keeper(book, book[1], "l.go"), "l")
        self.assertEqual(keeper(book[:1], book[1], "l.go"), "l")
        self.assertEqual(keeper((), edition("l", 1, "", "", "go deep", "l.go z"), "l.go"), "l")
        self.assertEqual(keeper(BOOK, edition("n", 2, "", "", "", "l.add l"), "l.add"), "n")

    def test_one_of_several_verbs_given(self):
        book = (edition("l", 1, "", "", "a deep, b deep, c deep", "l.a m, l.c k"),)
        self.assertEqual([keeper(book, edition("z", 1, "l 1"), verb) for verb in ["l.a", "l.b", "l.c"]], ["m", "l", "k"])

    def test_given_to_its_own_line(self):
        book = (edition("l", 1, "", "", "a deep"), edition("l", 2, "", "", "", "l.a l"))
        self.assertEqual(keeper(book, edition("l", 3), "l.a"), "l")


class Made(unittest.TestCase):
    def test_many_books_as_told_plainly(self):
        dice = chance(91)
        given = 0
        for _ in range(60):
            book = some_book(dice, 9, 1)
            for made in book + (some_edition(dice, book),):
                self.assertEqual(sight(book, made), plainly.sight(book, made))
                lore = lore_of(book, made)
                self.assertEqual(lore, plainly.lore_of(book, made))
                self.assertTrue(is_lore(lore))
                for verb, *_ in lore[1]:
                    line = keeper(book, made, verb)
                    self.assertEqual(line, plainly.keeper(book, made, verb))
                    given += line != verb.split(".")[0]
        self.assertGreater(given, 100)

    def test_what_is_told_is_of_tuples_and_told_again(self):
        for made in BOOK:
            told = (sight(BOOK, made), lore_of(BOOK, made))
            self.assertEqual(told, (sight(BOOK, made), lore_of(BOOK, made)))
            self.assertTrue(all(type(row) is tuple for row in [told[0], told[1], *told[1]]))


if __name__ == "__main__":
    unittest.main()
