import unittest

from aheadofholes.houses import answers
from aheadofholes.idles import idle, used
from tests import plainly
from tests.books import BOOK, edition, filled, plain_words, some_book, with_rows
from tests.reference import name_of, read
from tests.samples import chance

ROOTS = edition("l", 1, "", "a, b, nil, p 1 0, s 0, w 2 0 1", "f 0 deep, g 0 1 wide, h 0 1 2 deep, now deep")


def with_heads(text, made=ROOTS):
    return with_rows(made, "; ".join(f"{head} = {head}" for head in text.split(";")))


def wide_head(holes):
    """A head with these holes, 81 of them."""
    layer = list(holes)
    while len(layer) > 3:
        layer = [("l.w", *layer[at:at + 3]) for at in range(0, len(layer), 3)]
    return ("l.h", *layer)


def frozen(head):
    """The head with each hole as a word of its own."""
    return plainly.put_for(head, {hole: (f"hole.{hole}",) for hole in plainly.holes(head)})


def idle_plainly(made):
    heads = [row[0] for row in made[6]]
    return tuple(at for at, head in enumerate(heads) if any(plainly.fits(above, frozen(head)) for above in heads[:at]))


class Idle(unittest.TestCase):
    def told(self, text, *numbers):
        made = with_heads(text)
        self.assertEqual(idle(made), numbers, text)
        self.assertEqual(idle_plainly(made), numbers, text)

    def test_without_rows(self):
        self.assertEqual(idle(ROOTS), ())
        self.assertEqual(idle(edition=edition("k", 1)), ())

    def test_one_row(self):
        self.told("l.f(x)")
        self.told("l.now")

    def test_rows_that_come_of_one_above_by_words(self):
        self.told("l.f(x); l.f(l.a)", 1)
        self.told("l.f(l.s(x)); l.f(l.s(l.a)); l.f(l.a); l.f(l.s(l.s(y)))", 1, 3)
        self.told("l.g(x, l.a); l.g(l.b, l.a); l.g(l.a, l.b); l.g(y, l.a)", 1, 3)

    def test_rows_that_come_of_one_above_by_trees_with_holes(self):
        self.told("l.f(x); l.f(l.p(x, y)); l.f(l.s(l.w(x, y, x)))", 1, 2)
        self.told("l.g(l.p(x, y), z); l.g(l.p(z, l.s(x)), l.w(x, y, z)); l.g(x, l.p(y, z))", 1)

    def test_by_the_same_hole_twice(self):
        self.told("l.g(x, y); l.g(x, x); l.g(y, x)", 1, 2)
        self.told("l.g(x, x); l.g(x, y); l.g(l.a, l.a); l.g(l.a, l.b); l.g(l.s(y), l.s(y)); l.g(l.s(x), l.s(y))", 2, 3, 4, 5)
        self.told("l.g(x, x); l.g(l.s(x), l.s(y)); l.g(l.s(y), l.s(y))", 2)
        self.told("l.h(x, x, y); l.h(x, y, y); l.h(x, x, x); l.h(x, y, x)", 2)
        self.told("l.h(x, x, l.s(y)); l.h(l.a, l.a, l.s(l.b)); l.h(y, y, l.s(y)); l.h(l.s(y), l.s(y), l.s(z)); l.h(x, y, l.s(y))", 1, 2, 3)

    def test_alike_but_for_holes_names_and_the_same_row_twice(self):
        self.told("l.f(x); l.f(y)", 1)
        self.told("l.g(x, y); l.g(y, x); l.g(a, b)", 1, 2)
        self.told("l.g(x, l.s(x)); l.g(l.s(x), x); l.g(y, l.s(y)); l.g(x, l.s(x))", 2, 3)
        self.told("l.now; l.now; l.f(l.a); l.now", 1, 3)
        self.assertEqual(idle(with_rows(ROOTS, "l.f(x) = l.a; l.f(x) = l.b; l.f(y) = y; l.g(x, y) = x; l.g(x, y) = y")), (1, 2, 4))

    def test_a_row_that_comes_of_one_below_it_alone_is_not_idle(self):
        self.told("l.f(l.a); l.f(x)")
        self.told("l.g(x, x); l.g(x, y)")
        self.told("l.f(l.s(x)); l.f(x); l.f(l.s(l.a))", 2)

    def test_rows_that_come_of_all_rows_above_together_but_of_none_alone(self):
        self.told("l.f(l.a); l.f(l.b); l.f(l.nil); l.f(l.p(x, y)); l.f(l.s(x)); l.f(l.w(x, y, z)); l.f(x)")

    def test_holes_of_both_are_unlike(self):
        self.told("l.g(x, l.a); l.g(l.a, x); l.g(x, l.s(x)); l.g(y, l.s(x))")

    def test_heads_that_differ_in_how_many_parts_they_have(self):
        made = (("l.f", "x"), ("l.f", "x", "y"), ("l.f",), ("l.f", "x", ("l.a",)))
        self.assertEqual(idle(ROOTS[:6] + (tuple((head, head) for head in made),)), (3,))

    def test_editions_by_chance(self):
        dice = chance(221)
        found = 0
        for _ in range(100):
            for made in some_book(dice, 4, 12):
                self.assertEqual(idle(made), idle_plainly(made))
                found += len(idle(made))
        self.assertGreater(found, 100)


class Used(unittest.TestCase):
    def hold(self, book, made, number):
        """What is told of a row that isn't idle, held against what the document says of it."""
        other, form = used(book, made, number)
        self.assertTrue(plainly.is_edition(other))
        self.assertEqual((other[1:3], other[4:]), ((1, ()), ((), (), ())))
        self.assertNotIn(other[0], [there[0] for there in book])
        self.assertTrue(all(parts == () for _, parts in other[3]))
        self.assertIsNone(plainly.refusal(book, other))
        there = book + (other,)
        told = {word[0]: len(word[1]) for edition in there for word in edition[3] + edition[4]}
        self.assertTrue(plainly.is_tree(form) and not plainly.holes(form))
        for place in plainly.places(form):
            tree = plainly.at_place(form, place)
            self.assertEqual(told.get(tree[0]), len(tree) - 1)
        self.assertEqual(answers(there, form), (made[:2], number))
        self.assertEqual(plainly.answers(there, form), (made[:2], number))
        return other, form

    def hold_all(self, book):
        """The same of each row of the book; how many are used, and how many idle."""
        self.assertTrue(plainly.is_book(book))
        found = [0, 0]
        for made in book:
            for number in range(len(made[6])):
                found[number in idle_plainly(made)] += 1
                if number in idle_plainly(made):
                    self.assertIsNone(used(book, made, number))
                else:
                    self.hold(book, made, number)
        return found

    def test_rows_of_one_edition(self):
        heads = "l.f(l.s(x)); l.f(x); l.f(l.a); l.g(x, x); l.g(x, y); l.g(y, x); l.h(x, l.p(y, x), z); l.now; l.now; l.h(x, y, z)"
        self.assertEqual(self.hold_all((with_heads(heads),)), [7, 3])
        made = with_heads(heads)
        self.assertIsNone(used(book=(made,), edition=made, number=8))
        self.assertEqual(used(book=(made,), edition=made, number=1), used((made,), made, 1))

    def test_holes_beside_names_of_every_word_of_the_book(self):
        heads = "l.f(l.a); l.f(l.b); l.f(l.nil); l.f(l.p(x, y)); l.f(l.s(x)); l.f(l.w(x, y, z)); l.f(x)"
        self.assertEqual(self.hold_all((with_heads(heads),)), [7, 0])
        heads = "l.g(l.a, x); l.g(l.b, x); l.g(l.nil, x); l.g(x, l.a); l.g(x, l.b); l.g(x, l.nil); l.g(x, x); l.g(x, y)"
        self.assertEqual(self.hold_all((with_heads(heads),)), [8, 0])

    def test_a_book_whose_words_have_all_parts(self):
        made = with_heads("l.f(l.s(x)); l.f(l.p(l.s(x), y)); l.f(x); l.g(x, x); l.g(l.s(x), y)",
                          edition("l", 1, "", "p 0 1, s 0", "f 0 deep, g 0 1 deep"))
        self.assertEqual(self.hold_all((made,)), [5, 0])

    def test_a_book_that_tells_no_words(self):
        made = with_heads("l.f(x); l.g(x, x); l.g(y, z); l.now; l.f(y)", edition("l", 1, "", "", "f 0 deep, g 0 1 deep, now deep"))
        self.assertEqual(self.hold_all((made,)), [4, 1])

    def test_lines_that_gives_name(self):
        made = edition("m", 1, "", "w", "f 0 deep, g deep, h deep", "m.f a, m.g b, m.h c", "m.f(x) = x")
        book = tuple(edition(line, 1) for line in "defgh") + (made,)
        self.assertNotIn(self.hold(book, made, 0)[0][0], list("abcdefghm"))

    def test_lines_of_all_letters(self):
        made = edition("m", 1, "", "w", "f 0 deep", "", "m.f(x) = x")
        book = tuple(edition(line, 1) for line in "abcdefghijklnopqrstuvwxyz") + (made,)
        self.assertNotIn(self.hold(book, made, 0)[0][0], list("abcdefghijklmnopqrstuvwxyz"))

    def test_heads_that_two_editions_of_the_book_both_match(self):
        book = (ROOTS, edition("m", 1, "l 1", "em 0", "do 0 deep", "", "m.do(x) = x; l.f(m.em(x)) = x"),
                edition("l", 2, "m 1", "two", "", "", "l.f(l.two) = l.two; l.f(m.em(l.two)) = l.a"))
        book = (with_heads("l.f(x); l.g(x, y); l.f(l.s(x))"),) + book[1:]
        self.assertEqual(self.hold_all(book[:2]), [4, 1])
        over = edition("m", 2, "", "ex", "", "", "m.do(m.ex) = m.ex; l.f(m.em(m.ex)) = m.ex; l.f(m.em(m.em(m.ex))) = m.ex")
        self.assertEqual(self.hold_all(book[:2] + (over,)), [7, 1])

    def test_rows_that_later_editions_narrow(self):
        book = (with_heads("l.f(l.s(x)); l.f(x); l.g(x, y)"),)
        for number in range(1, 7):
            rows = f"l.f(k.{'abcdefg'[number]}) = l.a; l.f(l.s(k.{'abcdefg'[number]})) = l.b; l.g(k.{'abcdefg'[number]}, x) = x"
            book += (edition("k", number, "l 1", "abcdefg"[number], "", "", rows),)
        self.assertEqual(self.hold_all(book), [21, 0])

    def test_many_holes(self):
        holes = [name_of(number) for number in range(81)]
        heads = [wide_head(row) for row in [["x"] * 81, holes[:40] * 2 + ["x"], holes, holes[40:] + holes[:40]]]
        made = ROOTS[:6] + (tuple((head, head) for head in heads),)
        self.assertEqual(self.hold_all((made,)), [3, 1])
        self.assertEqual(len(used((made,), made, 2)[0][3]), 81)

    def test_the_books_made_by_hand(self):
        self.assertEqual(self.hold_all(BOOK), [6, 0])

    def test_books_by_chance(self):
        dice = chance(222)
        found = [0, 0]
        for _ in range(60):
            for at, many in enumerate(self.hold_all(some_book(dice, 8, 8))):
                found[at] += many
        self.assertGreater(min(found), 30, found)

    def test_an_idle_row_never_answers(self):
        dice = chance(223)
        asked = 0
        for _ in range(60):
            book = some_book(dice, 8, 8)
            for made in book:
                for number in idle(made):
                    for _ in range(5):
                        form = filled(dice, made[6][number][0], plain_words(book) + [("q.q",), read("q.r(q.q)")])
                        asked += 1
                        self.assertNotEqual(answers(book, form), (made[:2], number))
        self.assertGreater(asked, 100)


if __name__ == "__main__":
    unittest.main()
