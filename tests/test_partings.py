import unittest

from aheadofholes.partings import parted
from aheadofholes.rule import is_book, is_let_by
from tests import plainly
from tests.books import BOOK, edition, let_by_rows, some_book, some_edition, with_rows
from tests.pairs import doubling, doubling_clash, open_chain
from tests.samples import chance
from tests.twins import answered, changed, forms_asked, shows_parted, some_twins

MADE = edition("l", 1, "", "a, b, nil, p 1 0, s 0", "f 0 deep, g 0 1 wide, h 0 1 2 deep, now deep")


class Parted(unittest.TestCase):
    def told(self, wanted, rows, others, book=(), made=MADE):
        """parted of the edition with these rows and with those, held against what the document says; both ways about."""
        one, other = with_rows(made, rows), with_rows(made, others)
        for first, second in [(one, other), (other, one)]:
            self.assertTrue(plainly.is_book(book + (first,)), first)
            thing = parted(book, first, second)
            self.assertIs(thing is not None, wanted, (rows, others))
            if wanted:
                self.assertTrue(shows_parted(book, first, second, thing), thing)
            else:
                self.hold_alike(book, first, second)

    def hold_alike(self, book, one, other):
        behind = ("zz", 1, (), (("zz.y", ()), ("zz.z", ())), (), (), ())
        words = [word for made in book + (one, behind) for word in made[3]]
        for form in forms_asked(chance(234), one, other, words, 60):
            self.assertEqual(answered(book, one, behind, form), answered(book, other, behind, form), form)

    def test_an_edition_and_the_same_one(self):
        for rows in ["", "l.f(x) = x", "l.f(l.a) = l.b; l.g(x, y) = y", "l.g(x, x) = x; l.g(x, y) = l.f(y); l.now = l.now"]:
            self.told(False, rows, rows)
        self.assertIsNone(parted(book=(), one=MADE, other=MADE))

    def test_with_holes_called_otherwise(self):
        self.told(False, "l.f(x) = x", "l.f(y) = y")
        self.told(False, "l.g(x, y) = l.p(x, y)", "l.g(y, x) = l.p(y, x)")
        self.told(True, "l.g(x, y) = l.p(x, y)", "l.g(y, x) = l.p(x, y)")
        self.told(True, "l.g(x, y) = x", "l.g(y, x) = x")
        self.told(False, "l.g(x, l.s(x)) = l.p(x, x)", "l.g(z, l.s(z)) = l.p(z, z)")

    def test_rows_exchanged_that_no_form_both_match(self):
        self.told(False, "l.f(l.a) = l.a; l.f(l.b) = l.b", "l.f(l.b) = l.b; l.f(l.a) = l.a")
        self.told(False, "l.g(x, l.s(x)) = l.a; l.g(l.s(x), x) = l.b", "l.g(l.s(x), x) = l.b; l.g(x, l.s(x)) = l.a")
        self.told(False, "l.f(x) = l.a; l.g(x, y) = l.b", "l.g(x, y) = l.b; l.f(x) = l.a")

    def test_rows_exchanged_that_both_match_a_form(self):
        self.told(True, "l.f(l.a) = l.a; l.f(x) = l.b", "l.f(x) = l.b; l.f(l.a) = l.a")
        self.told(False, "l.f(l.a) = l.a; l.f(x) = x", "l.f(x) = x; l.f(l.a) = l.a")
        self.told(True, "l.g(x, l.a) = l.a; l.g(l.b, x) = l.b", "l.g(l.b, x) = l.b; l.g(x, l.a) = l.a")
        self.told(False, "l.g(x, l.a) = x; l.g(l.b, x) = l.b", "l.g(l.b, x) = l.b; l.g(x, l.a) = x")
        self.told(True, "l.g(x, x) = l.a; l.g(x, y) = y", "l.g(x, y) = y; l.g(x, x) = l.a")
        self.told(False, "l.g(x, x) = x; l.g(x, y) = y", "l.g(x, y) = y; l.g(x, x) = x")
        self.told(False, "l.g(x, x) = l.p(x, x); l.g(x, y) = l.p(y, x)", "l.g(x, y) = l.p(y, x)")
        self.told(True, "l.g(x, x) = l.p(x, x); l.g(x, y) = l.p(y, x)", "l.g(x, y) = l.p(x, x)")

    def test_a_row_twice_and_an_idle_row_more(self):
        self.told(False, "l.f(l.a) = l.b; l.f(x) = x", "l.f(l.a) = l.b; l.f(l.a) = l.b; l.f(x) = x; l.f(x) = x")
        self.told(False, "l.f(x) = x", "l.f(x) = x; l.f(l.a) = l.b")
        self.told(False, "l.g(x, l.s(y)) = x", "l.g(x, l.s(y)) = x; l.g(l.a, l.s(l.s(x))) = l.nil; l.g(y, l.s(y)) = l.b")

    def test_a_row_left_out(self):
        self.told(True, "l.f(l.a) = l.a; l.f(l.b) = l.b", "l.f(l.a) = l.a")
        self.told(True, "l.f(l.a) = l.a", "")
        self.told(True, "l.now = l.a", "")
        self.told(True, "l.f(l.a) = l.b; l.f(x) = x", "l.f(x) = x")
        self.told(True, "l.f(l.a) = l.b; l.f(x) = x", "l.f(l.a) = l.b")
        self.told(True, "l.g(x, x) = x; l.g(x, y) = y", "l.g(x, x) = x")
        self.told(True, "l.g(x, y) = y", "l.g(x, x) = x")

    def test_rows_that_together_match_all_that_one_row_does_of_words_told_so_far(self):
        """Words to come may stand there as well, so that a hole matches more than all words of the book do."""
        made = edition("l", 1, "", "a, b", "f 0 deep")
        self.told(True, "l.f(l.a) = l.a; l.f(l.b) = l.b; l.f(x) = x", "l.f(l.a) = l.a; l.f(l.b) = l.b", (), made)
        self.told(False, "l.f(l.a) = l.a; l.f(l.b) = l.b; l.f(x) = x", "l.f(x) = x", (), made)
        self.told(True, "l.f(l.a) = l.a; l.f(l.b) = l.b; l.f(x) = l.a", "l.f(l.a) = l.a; l.f(l.b) = l.b; l.f(x) = l.b", (), made)

    def test_an_answer_otherwise_in_a_part_that_some_form_shows(self):
        self.told(True, "l.f(x) = l.a", "l.f(x) = l.b")
        self.told(True, "l.f(x) = x", "l.f(x) = l.a")
        self.told(True, "l.f(l.a) = l.b; l.f(x) = l.a", "l.f(l.a) = l.b; l.f(x) = l.b")
        self.told(True, "l.f(l.a) = l.a; l.f(l.b) = l.b; l.g(x, y) = x", "l.f(l.a) = l.a; l.f(l.b) = l.b; l.g(x, y) = y")
        self.told(True, "l.f(x) = l.s(l.p(x, l.s(l.a)))", "l.f(x) = l.s(l.p(x, l.s(l.b)))")
        self.told(True, "l.g(x, y) = l.p(x, x)", "l.g(x, y) = l.p(x, y)")
        self.told(True, "l.now = l.a", "l.now = l.b")

    def test_an_answer_otherwise_in_a_part_that_no_form_shows(self):
        self.told(False, "l.f(x) = x; l.f(l.a) = l.a", "l.f(x) = x; l.f(l.a) = l.b")
        self.told(False, "l.g(x, x) = x; l.g(l.a, l.a) = l.a; l.g(l.s(y), l.s(y)) = y", "l.g(x, x) = x; l.g(l.a, l.a) = l.b")
        self.told(False, "l.f(l.a) = l.a", "l.f(l.a) = l.a; l.f(l.a) = l.b")

    def test_answers_that_differ_only_where_a_hole_is_put_by_another_tree(self):
        self.told(True, "l.g(x, y) = l.p(x, y)", "l.g(x, y) = l.p(y, x)")
        self.told(False, "l.g(x, x) = l.p(x, x)", "l.g(y, y) = l.p(y, y)")
        self.told(False, "l.f(l.s(x)) = l.s(x); l.f(x) = l.a", "l.f(l.s(y)) = l.s(y); l.f(x) = l.a")
        self.told(False, "l.f(l.s(x)) = l.s(x); l.f(y) = y", "l.f(y) = y")
        self.told(True, "l.f(l.s(x)) = x; l.f(y) = y", "l.f(y) = y")
        self.told(False, "l.g(l.s(x), y) = l.p(l.s(x), y); l.g(x, y) = l.p(x, y)", "l.g(x, y) = l.p(x, y)")
        self.told(True, "l.g(l.s(x), y) = l.p(l.s(y), y); l.g(x, y) = l.p(x, y)", "l.g(x, y) = l.p(x, y)")
        self.told(False, "l.g(l.s(x), l.s(x)) = l.p(l.s(x), l.s(x)); l.g(x, x) = l.p(x, x)", "l.g(z, z) = l.p(z, z)")

    def test_unlike_only_where_two_heads_that_lie_across_meet(self):
        one = "l.h(x, y, l.a) = l.s(x); l.h(x, l.b, y) = l.p(x, y); l.h(l.a, x, y) = l.a"
        self.told(True, one, "l.h(x, l.b, y) = l.p(x, y); l.h(x, y, l.a) = l.s(x); l.h(l.a, x, y) = l.a")
        self.told(True, one, "l.h(x, y, l.a) = l.s(x); l.h(l.a, x, y) = l.a; l.h(x, l.b, y) = l.p(x, y)")
        self.told(False, one, one + "; l.h(l.a, l.b, l.a) = l.b")
        self.told(True, one, "l.h(l.a, l.b, l.a) = l.b; " + one)
        self.told(False, one, "l.h(l.a, l.b, l.a) = l.s(l.a); " + one)

    def test_asks_are_not_worked_out(self):
        self.told(True, "l.f(x) = x; l.now = l.f(l.a)", "l.f(x) = x; l.now = l.a")
        self.told(True, "l.f(x) = x; l.now = l.f(l.a)", "l.f(x) = x; l.now = l.f(l.f(l.a))")
        self.told(False, "l.f(x) = l.f(x); l.f(l.a) = l.b", "l.f(y) = l.f(y)")

    def test_where_the_book_answers_too(self):
        book = (with_rows(MADE, "l.f(x) = x; l.g(l.a, x) = x"),)
        made = edition("m", 1, "l 1", "em, ex 0", "do 0 deep")
        self.told(True, "l.f(m.em) = m.em", "", book, made)
        self.told(True, "l.f(m.ex(x)) = m.ex(x)", "m.do(x) = x", book, made)
        self.told(False, "l.f(m.ex(x)) = m.ex(x); l.f(m.ex(m.em)) = m.em", "l.f(m.ex(x)) = m.ex(x)", book, made)
        self.told(True, "l.g(m.em, l.a) = l.a; l.g(m.em, x) = l.b", "l.g(m.em, x) = l.b", book, made)
        self.told(False, "l.g(m.em, l.a) = l.a; l.f(m.em) = l.b", "l.f(m.em) = l.b; l.g(m.em, l.a) = l.a", book, made)

    def test_home_rows_of_a_line_that_keeps_the_verb(self):
        book = (edition("l", 1, "", "a, b", "f 0 deep, g 0 1 deep"),)
        made = edition("l", 2)
        self.told(True, "l.f(l.a) = l.a", "l.f(l.b) = l.a", book, made)
        self.told(True, "l.f(l.a) = l.a", "l.f(l.a) = l.b", book, made)
        self.told(False, "l.f(l.a) = l.a; l.f(l.b) = l.b", "l.f(l.b) = l.b; l.f(l.a) = l.a; l.f(l.a) = l.b", book, made)

    def test_lines_of_the_book_of_theirs_and_that_gives_name(self):
        book = tuple(edition(line, 1) for line in "abcde") + (edition("f", 1, "", "", "v deep, w deep", "f.v g, f.w h"),)
        made = edition("i", 1, "", "w", "f 0 deep, g deep", "i.g j")
        one, other = with_rows(made, "i.f(x) = x"), with_rows(made, "i.f(x) = i.w")
        behind, _ = parted(book, one, other)
        self.assertTrue(shows_parted(book, one, other, parted(book, one, other)))
        self.assertNotIn(behind[0], "abcdefghij")
        self.assertIs(is_let_by(book + (one,), behind), True)

    def test_heads_that_come_to_large_trees(self):
        made = edition("l", 1, "", "a, b, cons 0 1, nil, p 0 1, s 0", "v 0 1 deep")
        for pair in [doubling(7), open_chain(9)]:
            rows = [(head, ("l.a",)) for head in pair]
            one, other = made[:6] + (tuple(rows),), made[:6] + (tuple(rows[::-1]),)
            if len(pair[0]) == 2:
                one, other = [edition("l", 1, "", "a, cons 0 1, end, nil, s 0", "v 0 deep")[:6] + (made[6],) for made in (one, other)]
            self.assertIsNone(parted((), one, other))
            unlike = other[:6] + ((rows[1], (rows[0][0], ("l.nil",))),)
            same = other[:6] + ((rows[0], (rows[1][0], ("l.nil",))),)
            self.assertTrue(shows_parted((), one, unlike, parted((), one, unlike)))
            self.assertTrue(shows_parted((), unlike, same, parted((), unlike, same)))
            self.assertIsNone(parted((), same, same))
        head, then = doubling_clash(6)
        made = edition("l", 1, "", "a, b, cons 0 1, nil, p 0 1", "v 0 1 2 deep")
        rows = ((head, ("l.a",)), (then, ("l.b",)))
        self.assertIsNone(parted((), made[:6] + (rows,), made[:6] + (rows[::-1],)))

    def test_twins_by_chance_alike_of_all_small_forms_or_shown_unlike(self):
        dice = chance(231)
        found = [0, 0]
        for _ in range(250):
            one, other = some_twins(dice, (), [("a", 0), ("p", 2), ("s", 1)], [("f", 1), ("g", 2)])
            if is_let_by((), one) and is_let_by((), other):
                self.hold_twins((), one, other, found)
        self.assertGreater(min(found), 40, found)

    def test_twins_by_chance_behind_a_book(self):
        dice = chance(232)
        found = [0, 0]
        while min(found) < 40:
            book = some_book(dice, 4, 3)
            one = let_by_rows(book, some_edition(dice, book, 8))
            more = let_by_rows(book, some_edition(dice, book, 8))
            if one[6] and more[6]:
                other = let_by_rows(book, one[:6] + (changed(dice, one[6], one[6]),))
                if is_let_by(book, one) and is_let_by(book, other):
                    self.hold_twins(book, one, other, found)

    def hold_twins(self, book, one, other, found):
        thing = parted(book, one, other)
        found[thing is not None] += 1
        if thing is None:
            self.assertIsNone(parted(book, other, one))
            self.hold_alike(book, one, other)
        else:
            self.assertTrue(shows_parted(book, one, other, thing), (one, other, thing))
            self.assertTrue(shows_parted(book, other, one, parted(book, other, one)))

    def test_of_any_book_that_has_the_one_the_other_way_is_a_book_too(self):
        dice = chance(233)
        held = 0
        for _ in range(300):
            book = some_book(dice, 2, 2)
            one = let_by_rows(book, some_edition(dice, book, 8))
            other = let_by_rows(book, one[:6] + (changed(dice, one[6], one[6]),)) if one[6] else one
            if one != other and parted(book, one, other) is None:
                more = book + (one,)
                for _ in range(3):
                    more += (let_by_rows(more, some_edition(dice, more, 6)),)
                way = tuple(other if made == one else made for made in more)
                held += 1
                self.assertTrue(is_book(more) and is_book(way))
                for made in more:
                    for head, _ in made[6]:
                        form = plainly.put_for(head, {hole: ("zz.z",) for hole in plainly.holes(head)})
                        told, then = plainly.answers(more, form), plainly.answers(way, form)
                        self.assertEqual(told and told[0], then and then[0])
        self.assertGreater(held, 30)

    def test_the_books_made_by_hand(self):
        for number, made in enumerate(BOOK):
            book = BOOK[:number]
            self.assertIsNone(parted(book, made, made))
            if made[6]:
                bare = made[:6] + ((),)
                self.assertTrue(shows_parted(book, made, bare, parted(book, made, bare)))
                self.assertTrue(shows_parted(book, bare, made, parted(book, bare, made)))


if __name__ == "__main__":
    unittest.main()
