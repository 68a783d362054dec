import unittest

from aheadofholes.rule import fate
from aheadofholes.sights import sight
from aheadofholes.strangerlooks import shows_stranger
from aheadofholes.strangers import stranger
from tests import plainly
from tests.books import BOOK, edition, filled, let_by_rows, plain_words, some_book, some_edition, with_field, with_rows
from tests.papers import with_one_otherwise
from tests.reference import read
from tests.samples import chance, things
from tests.test_sights import chain_of_gifts

ROOTS = edition("l", 1, "", "cons 1 0, nil, s 0", "dp 0 1 deep, wd 0 1 wide", "", "l.dp(l.nil, l.cons(x, y)) = x")
SEEN = edition("k", 1, "l 1", "kay", "", "", "l.dp(k.kay, x) = x")
UNSEEN = edition("u", 1, "l 1", "you", "", "", "l.dp(u.you, x) = x")
GOT = edition("l", 2, "k 1", "two")
BOOK_HERE = (ROOTS, SEEN, UNSEEN, GOT)
MADE = with_rows(edition("m", 1, "k 1", "em"), "l.dp(l.s(x), y) = x; l.dp(l.s(l.nil), l.nil) = l.nil; l.dp(m.em, x) = x;"
                 " l.dp(l.nil, l.cons(l.nil, l.nil)) = l.nil; l.wd(x, x) = x; l.dp(l.s(x), m.em) = x")
HOLED, STRAY, OWN, ANSWERED, TWICE, ALSO_EM = range(6)

OTHER = edition("z", 1, "k 1", "zed, zee 0", "", "", "l.dp(l.s(z.zed), x) = x; l.dp(l.s(z.zee(x)), y) = y; l.wd(z.zed, x) = x")


class Looks(unittest.TestCase):
    def shows(self, wanted, number, other, form, made=MADE, book=BOOK_HERE):
        thing = (other, read(form) if isinstance(form, str) else form)
        self.assertIs(shows_stranger(book, made, number, thing), wanted, thing)
        self.assertIs(plainly.shows_stranger(book, made, number, thing), wanted, thing)

    def test_the_fates_that_are_asked(self):
        self.assertTrue(plainly.is_book(BOOK_HERE))
        self.assertEqual([fate(BOOK_HERE, MADE, number)[0] for number in range(6)],
                         ["holed", "stray", "own", "answered", "holed", "holed"])

    def test_pairs_made_by_hand(self):
        self.shows(True, HOLED, OTHER, "l.dp(l.s(z.zed), l.nil)")
        self.shows(True, HOLED, OTHER, "l.dp(l.s(z.zed), l.s(z.zed))")
        self.shows(True, HOLED, OTHER, "l.dp(l.s(z.zee(z.zee(m.em))), l.cons(k.kay, l.nil))")
        self.shows(True, TWICE, OTHER, "l.wd(z.zed, z.zed)")
        self.shows(True, ALSO_EM, OTHER, "l.dp(l.s(z.zed), m.em)")
        self.assertIs(shows_stranger(book=BOOK_HERE, edition=MADE, number=HOLED,
                                     thing=(OTHER, read("l.dp(l.s(z.zed), l.nil)"))), True)

    def test_forms_that_one_of_both_does_not_match(self):
        for form in ["l.dp(l.nil, l.nil)", "l.dp(l.s(l.nil), l.nil)", "l.wd(z.zed, z.zed)", "l.dp(l.s(m.em), z.zed)",
                     "l.dp(z.zed, l.nil)"]:
            self.shows(False, HOLED, OTHER, form)
        self.shows(False, TWICE, OTHER, "l.wd(z.zed, l.nil)")
        self.shows(False, ALSO_EM, OTHER, "l.dp(l.s(z.zed), l.nil)")

    def test_forms_that_are_not_of_the_lore_told(self):
        for part in ["u.you", "l.two", "z.none", "q.q", "l.nil(l.nil)", "l.s", "k.kay(l.nil)", "l.dp(l.nil, l.nil)", "z.zee",
                     "l.s(u.you)", "l.cons(l.nil, l.s(l.two))", "m.em(m.em)"]:
            self.shows(False, HOLED, OTHER, f"l.dp(l.s(z.zed), {part})")

    def test_what_is_no_form(self):
        for form in ["l.dp(l.s(z.zed), x)", "l.dp(l.s(x), l.nil)", "x", "y"]:
            self.shows(False, HOLED, OTHER, form)
        for form in [["l.dp", ("l.s", ("z.zed",)), ("l.nil",)], ("l.dp", ("l.s", ["z.zed"]), ("l.nil",)), None, ()]:
            self.shows(False, HOLED, OTHER, form)

    def test_an_edition_of_its_own_line(self):
        other = edition("m", 1, "k 1", "am", "", "", "l.dp(l.s(m.am), x) = x")
        self.shows(False, HOLED, other, "l.dp(l.s(m.am), l.nil)")
        self.shows(False, STRAY, edition("m", 1, "k 1", "em", "", "", "l.dp(l.s(l.nil), m.em) = l.nil"),
                   "l.dp(l.s(l.nil), l.nil)")
        other = with_field(edition("m", 2, "k 1", "am", "", "", "l.dp(l.s(m.am), x) = x"), 2, (("k", 1), ("m", 1)))
        self.shows(False, HOLED, other, "l.dp(l.s(m.am), l.nil)")

    def test_an_edition_that_is_not_let_by_there(self):
        form = "l.dp(l.s(z.zed), l.nil)"
        for other in [
            with_field(OTHER, 1, 2), with_field(OTHER, 2, (("k", 1), ("u", 1))), with_field(OTHER, 2, (("l", 2),)),
            with_field(OTHER, 2, ()), with_rows(OTHER, "l.dp(l.s(z.zed), x) = y"), with_rows(OTHER, "l.dp(l.s(x), y) = x"),
            with_rows(OTHER, "l.dp(l.s(z.zed), x) = x; l.dp(x, x) = x"), with_rows(OTHER, "l.dp(l.s(z.zed), x) = m.em"),
            with_rows(OTHER, "l.dp(l.s(z.zed), m.em) = x"), with_rows(OTHER, "l.dp(l.s(z.zed), x) = u.you"),
            with_rows(OTHER, "l.dp(l.s(z.zed), x) = x; l.dp(l.s(l.nil), l.nil) = l.nil"),
            with_field(OTHER, 5, (("l.dp", "z"),)),
        ]:
            self.shows(False, HOLED, other, form)
        self.shows(True, HOLED, with_rows(OTHER, "l.dp(l.s(z.zed), x) = l.dp(x, k.kay)"), form)

    def test_just_what_the_edition_sees_is_out(self):
        form = read("l.dp(l.s(l.nil), l.nil)")
        for number, sees, wanted in [(2, "", True), (2, "k 1", True), (3, "", False), (1, "", False), (2, "u 1", False)]:
            other = edition("l", number, sees, "", "", "", "l.dp(l.s(l.nil), l.nil) = l.nil")
            self.shows(wanted, STRAY, other, form)
            self.shows(wanted, STRAY, with_field(other, 3, (("l.two", ()),)), form)

    def test_a_stranger_that_sees_less(self):
        self.shows(True, HOLED, edition("z", 1, "l 1", "zed", "", "", "l.dp(l.s(z.zed), x) = x"), "l.dp(l.s(z.zed), k.kay)")
        self.shows(True, HOLED, edition("l", 2, "", "too", "", "", "l.dp(l.s(l.too), x) = x"), "l.dp(l.s(l.too), l.nil)")
        self.shows(True, HOLED, edition("l", 2, "", "", "", "", "l.dp(l.s(l.nil), l.nil) = l.nil"), "l.dp(l.s(l.nil), l.nil)")
        self.shows(True, HOLED, edition("k", 2, "", "kee", "", "", "l.dp(l.s(k.kee), x) = x"), "l.dp(l.s(k.kee), l.nil)")

    def test_no_pair_of_a_row_that_is_own_or_answered(self):
        other = edition("l", 2, "k 1", "too", "", "", "l.dp(l.too, x) = x")
        for number, form in [(OWN, "l.dp(m.em, l.nil)"), (OWN, "l.dp(l.too, l.nil)"), (OWN, "l.dp(m.em, l.too)"),
                             (ANSWERED, "l.dp(l.nil, l.cons(l.nil, l.nil))")]:
            self.shows(False, number, other, form)
            self.shows(False, number, OTHER, form)

    def test_whatever_stranger_tells(self):
        dice = chance(161)
        found = {}
        for _ in range(150):
            book = some_book(dice, 9)
            made = some_edition(dice, book, 8)
            for number in range(len(made[6])):
                told = stranger(book, made, number)
                self.assertIs(shows_stranger(book, made, number, told), told is not None)
                if told is not None:
                    word = fate(book, made, number)[0]
                    found[word] = found.get(word, 0) + 1
                    self.hold_at_all_rows(book, made, told)
        self.assertGreater(min(found.values()), 50)

    def hold_at_all_rows(self, book, made, told):
        """The same pair is shown of each row that matches the form, and of none else."""
        for at in range(len(made[6])):
            self.assertIs(shows_stranger(book, made, at, told), plainly.shows_stranger(book, made, at, told))

    def test_any_edition_of_chance_as_another(self):
        dice = chance(162)
        found = [0, 0]
        for _ in range(300):
            book = some_book(dice, 5)
            made = some_edition(dice, book, 6)
            seen = sight(book, made)
            other = let_by_rows(seen, some_edition(dice, seen, 6))
            words = plain_words(seen + (made, other)) + [("q.q",)]
            for number in range(len(made[6])):
                for head, _ in made[6][number:number + 1] + other[6]:
                    thing = (other, filled(dice, head, words))
                    told = shows_stranger(book, made, number, thing)
                    self.assertIs(told, plainly.shows_stranger(book, made, number, thing))
                    found[told] += 1
        self.assertGreater(min(found), 5, found)

    def test_one_thing_otherwise_at_any_place(self):
        holed = (OTHER, read("l.dp(l.s(z.zed), l.s(m.em))"))
        stray = (edition("l", 2, "k 1", "", "", "", "l.dp(l.s(l.nil), l.nil) = l.nil"), read("l.dp(l.s(l.nil), l.nil)"))
        for number, pair in [(HOLED, holed), (STRAY, stray), (HOLED, stranger(BOOK_HERE, MADE, HOLED)),
                             (STRAY, stranger(BOOK_HERE, MADE, STRAY))]:
            found = [0, 0]
            for bent in [pair] + with_one_otherwise(pair):
                told = shows_stranger(BOOK_HERE, MADE, number, bent)
                self.assertIs(told, plainly.shows_stranger(BOOK_HERE, MADE, number, bent), repr(bent)[:300])
                found[told] += 1
            self.assertGreater(found[True], 0)
            self.assertGreater(found[False], 500)

    def test_things_of_any_kind(self):
        form = read("l.dp(l.s(z.zed), l.nil)")
        for thing in [OTHER, form]:
            self.assertIs(shows_stranger(BOOK_HERE, MADE, HOLED, thing), False)
        for thing in things() + [[OTHER, form], (form, OTHER), (OTHER,), (OTHER, form, form), (OTHER, OTHER)]:
            for made in [thing, (OTHER, thing), (thing, form), (thing, thing), (OTHER, form, thing)]:
                for number in range(6):
                    self.assertIs(shows_stranger(BOOK_HERE, MADE, number, made), False)
            for at in range(7):
                for number in (HOLED, STRAY):
                    self.assertIs(shows_stranger(BOOK_HERE, MADE, number, (with_field(OTHER, at, thing), form)),
                                  plainly.shows_stranger(BOOK_HERE, MADE, number, (with_field(OTHER, at, thing), form)))

    def test_verbs_that_were_given_on(self):
        book = chain_of_gifts()
        made = with_rows(edition("z", 1, "m 1"), "l.go(l.nil) = l.nil")
        for line, number, sees, wanted in [("k", 1, "m 1", True), ("k", 1, "l 2", False), ("m", 2, "", False), ("l", 3, "", False),
                                           ("l", 3, "m 1", False), ("k", 2, "", False), ("q", 1, "m 1", False)]:
            self.shows(wanted, 0, edition(line, number, sees, "", "", "", "l.go(l.nil) = l.nil"), "l.go(l.nil)", made, book)

    def test_what_is_handed_in_stays_as_it_was(self):
        thing = [list(OTHER), ["l.dp"]]
        for _ in range(2):
            self.assertIs(shows_stranger(BOOK_HERE, MADE, HOLED, thing), False)
        self.assertEqual(thing, [list(OTHER), ["l.dp"]])
        self.assertTrue(plainly.is_book(BOOK))


if __name__ == "__main__":
    unittest.main()
