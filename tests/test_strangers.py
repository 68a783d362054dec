import unittest

from aheadofholes.heads import match
from aheadofholes.rule import fate, is_book, let_by
from aheadofholes.sights import sight
from aheadofholes.strangers import stranger
from aheadofholes.trees import holes_in, is_hole, tree_at, trees_in
from tests import plainly
from tests.books import BOOK, edition, some_book, some_edition, with_rows
from tests.samples import chance
from tests.test_sights import chain_of_gifts

ROOTS = edition("l", 1, "", "cons 1 0, nil, s 0", "dp 0 1 deep, wd 0 1 wide")
MADE = edition("m", 1, "l 1", "em 0")


class Strangers(unittest.TestCase):
    def told(self, text, made=MADE, book=(ROOTS,)):
        """What is told of the one row of this text, held against what the document tells of it."""
        made = with_rows(made, text)
        told = stranger(book, made, 0)
        self.hold(book, made, 0, told)
        return told

    def hold(self, book, made, number, told):
        other, form = told
        seen = sight(book, made)
        head = made[6][number][0]
        self.assertNotEqual(other[0], made[0])
        self.assertIsNone(let_by(seen, other))
        self.assertIsNone(plainly.refusal(seen, other))
        self.assertIsNotNone(match(head, form))
        self.assertTrue(plainly.who((other,), form))
        self.assertTrue(plainly.shows_stranger(book, made, number, told))
        word, *told = fate(book, made, number)
        if word == "holed":
            self.hold_holed(book + (made,), other, head, plainly.looked(plainly.lore_of(book, made), head))
        else:
            self.assertEqual(word, "stray")
            line = plainly.keeper(book, made, head[0])
            self.assertEqual(other[:2], (line, 1 + len([one for one in seen if one[0] == line])))
            self.assertEqual([row[0] for row in other[6]], [head])
            self.assertEqual((other[3], other[4], form), ((), (), head))

    def hold_holed(self, there, other, head, steps):
        """A line that is none there tells one word, with the same names ahead of it, elsewhere holes, each once."""
        self.assertNotIn(other[0], [made[0] for made in there])
        self.assertEqual((other[1], len(other[3]), other[3][0][1], other[4], other[5], len(other[6])), (1, 1, (), (), (), 1))
        wide = other[6][0][0]
        names = dict(steps[:-1])
        names[steps[-1][0]] = other[3][0][0]
        for place, name in names.items():
            self.assertEqual(tree_at(wide, place)[0], name)
            self.assertEqual(len(tree_at(wide, place)), len(tree_at(head, place)) if place != steps[-1][0] else 1)
        self.assertEqual(len([tree for tree in trees_in(wide) if not is_hole(tree)]), len(names))
        self.assertEqual(len([tree for tree in trees_in(wide) if is_hole(tree)]), len(holes_in(wide)))

    def test_none_of_a_row_that_is_own_home_or_answered(self):
        for number, made in enumerate(BOOK):
            for at in range(len(made[6])):
                self.assertIsNone(stranger(BOOK[:number], made, at))
                self.assertIsNone(stranger(BOOK, made, at))
        book = (edition("l", 1, "", "nil, t", "f 0 deep", "", "l.f(l.t) = l.t"),)
        self.assertIsNone(stranger(book, edition("l", 2, "", "", "", "", "l.f(l.nil) = l.nil"), 0))
        self.assertIsNone(stranger(book, edition("l", 2, "", "", "", "", "l.f(l.t) = l.nil"), 0))
        self.assertIsNone(stranger(book, edition("m", 1, "l 1", "", "", "", "l.f(l.t) = l.nil"), 0))

    def test_holed_at_the_verbs_first_place(self):
        other, _ = self.told("l.dp(x, l.nil) = l.nil")
        self.assertEqual(other[6][0][0][2], "a")
        self.assertEqual(other[2], (("l", 1),))
        self.told("l.wd(x, x) = x")
        self.told("l.dp(x, m.em(l.nil)) = x")

    def test_holed_within_words_and_behind_several_names(self):
        for text in ["l.dp(l.s(x), l.nil)", "l.dp(l.s(l.s(l.s(x))), y)", "l.dp(l.nil, x)", "l.dp(l.cons(l.s(x), l.nil), l.s(y))",
                     "l.dp(l.cons(x, l.s(l.nil)), l.nil)", "l.dp(l.cons(m.em(l.nil), x), y)", "l.wd(l.s(x), l.s(l.nil))",
                     "l.wd(l.s(l.cons(y, x)), l.cons(l.nil, l.s(l.nil)))", "l.wd(l.s(m.em(y)), z)",
                     "l.dp(l.cons(l.cons(x, l.nil), l.s(l.cons(l.nil, l.nil))), z)"]:
            self.told(f"{text} = l.nil")

    def test_a_hole_that_comes_again_and_further_holes(self):
        for text in ["l.dp(x, x)", "l.dp(l.s(x), x)", "l.dp(l.cons(x, x), l.cons(x, l.s(x)))", "l.wd(l.s(x), l.cons(l.s(x), x))",
                     "l.dp(l.s(x), l.cons(y, z))", "l.wd(l.cons(x, y), l.cons(z, m.em(w)))", "l.dp(l.cons(a, b), l.cons(c, a))",
                     "l.dp(l.nil, l.cons(x, y))", "l.wd(x, l.s(l.cons(m.em(x), y)))"]:
            self.told(f"{text} = l.nil")

    def test_a_line_that_is_none_there(self):
        book = tuple(edition(line, 1, "", "w", "v 0 deep") for line in "abcde")
        other, _ = self.told("a.v(x) = x", edition("f", 1, "a 1"), book)
        self.assertNotIn(other[0], "abcdef")
        self.assertEqual(other[2], (("a", 1),))
        gives = (edition("l", 1, "", "", "v 0 deep, w 0 deep", "l.v a, l.w b"),)
        other, _ = self.told("l.v(x) = x", edition("c", 1, "l 1"), gives)
        self.assertNotIn(other[0], ["a", "b", "c", "l"])

    def test_stray_meets_the_keepers_next_edition(self):
        other, form = self.told("l.dp(l.nil, l.nil) = l.nil")
        self.assertEqual((other[:2], form), (("l", 2), ("l.dp", ("l.nil",), ("l.nil",))))
        book = (ROOTS, edition("l", 2), edition("l", 3), edition("k", 1))
        self.assertEqual(self.told("l.dp(l.nil, l.nil) = l.nil", MADE, book)[0][:2], ("l", 2))
        self.assertEqual(self.told("l.dp(l.nil, l.nil) = l.nil", edition("m", 1, "l 2, k 1"), book)[0][:2], ("l", 3))
        self.assertEqual(self.told("l.dp(l.nil, l.nil) = l.nil", edition("k", 2, "l 3"), book)[0][:2], ("l", 4))

    def test_stray_whose_verb_was_given_on(self):
        book = chain_of_gifts()
        for line, number, sees, key in [
            ("z", 1, "l 1", ("l", 2)), ("z", 1, "l 2", ("m", 1)), ("z", 1, "m 1", ("k", 1)), ("z", 1, "k 1", ("l", 3)),
            ("z", 1, "l 3", ("m", 2)), ("m", 2, "", ("k", 1)), ("l", 4, "", ("m", 2)), ("k", 2, "", ("l", 3)),
            ("n", 3, "", ("m", 2)), ("o", 2, "", ("l", 2)), ("o", 2, "n 1", ("k", 1)),
        ]:
            other, _ = self.told("l.go(l.nil) = l.nil", edition(line, number, sees), book)
            self.assertEqual(other[:2], key)

    def test_given_to_a_line_that_has_no_edition(self):
        book = (edition("l", 1, "", "nil", "go 0 deep", "l.go a"),)
        other, _ = self.told("l.go(l.nil) = l.nil", edition("l", 2), book)
        self.assertEqual(other[:2], ("a", 1))

    def test_rows_of_an_edition_that_is_let_by_or_not_for_its_rows_alone(self):
        made = with_rows(edition("m", 1, "l 1", "em 0"), "l.dp(m.em(x), y) = x; l.dp(x, y) = x; l.dp(l.nil, l.nil) = l.nil;"
                         " l.dp(l.nil, m.em(x)) = x; l.wd(l.s(x), y) = m.em(y)")
        for number, is_told in enumerate([False, True, True, False, True]):
            told = stranger((ROOTS,), made, number)
            self.assertIs(told is not None, is_told)
            if is_told:
                self.hold((ROOTS,), made, number, told)
        self.assertEqual(stranger(book=(ROOTS,), edition=made, number=1), stranger((ROOTS,), made, 1))

    def test_nested_twenty_deep_and_of_many_names(self):
        tower = "l.s(" * 18 + "x" + ")" * 18
        for verb in ["l.dp", "l.wd"]:
            self.told(f"{verb}({tower}, y) = x")
            self.told(f"{verb}(l.nil, {tower}) = x")
        bush = "l.cons(l.s(l.nil), l.nil)"
        for _ in range(16):
            bush = f"l.cons({bush}, l.s(l.nil))"
        self.told(f"l.dp({bush}, l.cons(x, l.cons(y, x))) = x")
        self.told(f"l.wd({bush}, l.cons(x, l.cons(y, x))) = x")

    def test_many_rows(self):
        dice = chance(151)
        found = {}
        for _ in range(150):
            book = some_book(dice, 9)
            made = some_edition(dice, book, 8)
            for number in range(len(made[6])):
                word = fate(book, made, number)[0]
                told = stranger(book, made, number)
                self.assertEqual(told is not None, word in ("holed", "stray"))
                if told is not None:
                    self.hold(book, made, number, told)
                    found[word] = found.get(word, 0) + 1
        self.assertGreater(min(found.values()), 50)

    def test_behind_a_book_both_would_meet(self):
        dice = chance(152)
        met = 0
        for _ in range(100):
            book = some_book(dice, 6)
            made = some_edition(dice, book, 5)
            seen = sight(book, made)
            for number in range(len(made[6])):
                told = stranger(book, made, number)
                if told is not None:
                    other, form = told
                    both = seen + (with_rows(made, ""), other)
                    self.assertTrue(is_book(both))
                    self.assertTrue(plainly.are_strangers(both, made, other))
                    self.assertTrue(plainly.fits(made[6][number][0], form) and plainly.who((other,), form))
                    met += 1
        self.assertGreater(met, 50)


if __name__ == "__main__":
    unittest.main()
