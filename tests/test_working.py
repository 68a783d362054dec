import unittest

from aheadofholes.houses import answers, part
from aheadofholes.rule import is_book
from aheadofholes.working import worked
from tests import plainly
from tests.books import edition, plain_words, some_book
from tests.reference import read
from tests.samples import chance
from tests.works import LATE, MORE, ROOTS, WORK, bush, some_asked, some_work, tower

NIL = ("l.nil",)


def asked(*rows):
    """Asks of texts and numbers like "l.f(l.a)", 3, all answered by l 1, or ("m", 1, 3)."""
    return tuple((read(text), *((("l", 1), at) if type(at) is int else (at[:2], at[2]))) for text, at in rows)


def row_of(made, text):
    """The number of the row that has this head."""
    return [head for head, _ in made[6]].index(read(text))


def l_row(text):
    return row_of(ROOTS, text)


F, G, H, ID, NOW = [l_row(text) for text in ["l.f(x)", "l.g(x)", "l.h(x)", "l.id(x)", "l.now"]]


class Working(unittest.TestCase):
    def test_the_books_that_are_asked_are_some(self):
        self.assertTrue(plainly.is_book(WORK))
        self.assertEqual([(plainly.many_names(bush(many)), many) for many in range(1, 60)], [(many, many) for many in range(1, 60)])
        self.assertEqual((plainly.how_deep(tower(7)), plainly.many_names(tower(7))), (7, 7))

    def test_without_asks(self):
        self.assertEqual(worked(WORK, read("l.id(l.a)"), 1), ("told", ("l.a",), asked(("l.id(l.a)", ID))))
        self.assertEqual(worked(WORK, read("l.dup(l.s(l.a))"), 9),
                         ("told", read("l.p(l.s(l.a), l.s(l.a))"), asked(("l.dup(l.s(l.a))", l_row("l.dup(x)")))))
        self.assertEqual(worked(WORK, read("l.add(l.nil, l.w(l.a, l.b, l.a))"), 9),
                         ("told", read("l.w(l.a, l.b, l.a)"), asked(("l.add(l.nil, l.w(l.a, l.b, l.a))", 0))))
        self.assertEqual(worked(book=WORK, form=read("l.f(l.a)"), most=1), ("told", ("l.a",), asked(("l.f(l.a)", F))))

    def test_an_answer_that_is_an_ask(self):
        self.assertEqual(worked(WORK, read("l.now"), 2), ("told", ("l.a",), asked(("l.now", NOW), ("l.id(l.a)", ID))))

    def test_asks_beside_one_another(self):
        self.assertEqual(worked(WORK, read("l.h(l.nil)"), 9), (
            "told", read("l.p(l.a, l.b)"), asked(("l.h(l.nil)", H), ("l.f(l.nil)", F), ("l.g(l.nil)", G))))
        self.assertEqual(worked(WORK, read("l.thin(l.b)"), 9), (
            "told", read("l.w(l.a, l.a, l.a)"), asked(("l.thin(l.b)", l_row("l.thin(x)")), *[("l.f(l.b)", F)] * 3)))

    def test_asks_within_one_another(self):
        dup = l_row("l.dup(x)")
        self.assertEqual(worked(WORK, read("l.four(l.a)"), 9), (
            "told", read("l.p(l.p(l.a, l.a), l.p(l.a, l.a))"),
            asked(("l.four(l.a)", l_row("l.four(x)")), ("l.dup(l.a)", dup), ("l.dup(l.p(l.a, l.a))", dup))))

    def test_asks_that_come_to_trees_which_make_further_asks(self):
        step = l_row("l.add(l.s(x), y)")
        self.assertEqual(worked(WORK, read("l.add(l.s(l.s(l.nil)), l.a)"), 9), (
            "told", read("l.s(l.s(l.a))"),
            asked(("l.add(l.s(l.s(l.nil)), l.a)", step), ("l.add(l.s(l.nil), l.a)", step), ("l.add(l.nil, l.a)", 0))))

    def test_the_order_innermost_first_and_of_several_the_first_from_the_left_as_written(self):
        self.assertEqual(worked(WORK, read("l.mix(l.nil, l.a, l.s(l.b))"), 20), (
            "told", read("l.w(l.a, l.p(l.p(l.a, l.b), l.s(l.b)), l.p(l.a, l.b))"),
            asked(("l.mix(l.nil, l.a, l.s(l.b))", l_row("l.mix(x, y, z)")), ("l.g(l.a)", G), ("l.f(l.b)", F), ("l.f(l.nil)", F),
                  ("l.g(l.a)", G), ("l.h(l.b)", H), ("l.f(l.b)", F), ("l.g(l.b)", G), ("l.f(l.a)", F), ("l.g(l.b)", G),
                  ("l.id(l.p(l.a, l.b))", ID))))

    def test_rows_of_several_editions(self):
        self.assertEqual(worked(WORK, read("l.f(m.ex(m.em))"), 20), (
            "told", read("l.b"),
            asked(("l.f(m.ex(m.em))", ("m", 1, 3)), ("m.of(m.em)", ("m", 1, 4)), ("l.h(l.a)", H), ("l.f(l.a)", F),
                  ("l.g(l.a)", G), ("l.g(l.p(l.a, l.b))", G))))
        self.assertEqual(worked(WORK, read("l.id(l.late)"), 20), (
            "told", read("l.a"), asked(("l.id(l.late)", ("l", 2, 0)), ("l.now", NOW), ("l.id(l.a)", ID))))
        self.assertEqual(worked(WORK, read("l.f(l.late)"), 20), (
            "told", read("l.a"), asked(("l.f(l.late)", ("l", 2, 1)), ("l.f(l.p(l.late, l.late))", F))))
        self.assertEqual(worked(WORK, read("l.add(m.ex(l.nil), l.late)"), 20), (
            "told", read("m.ex(l.a)"),
            asked(("l.add(m.ex(l.nil), l.late)", ("m", 1, 0)), ("l.add(l.nil, l.late)", 0), ("m.do(l.late)", ("m", 1, 1)),
                  ("l.id(l.late)", ("l", 2, 0)), ("l.now", NOW), ("l.id(l.a)", ID))))

    def test_none_with_the_very_ask_that_has_no_row(self):
        lost = l_row("l.lost(l.a)")
        self.assertEqual(worked(WORK, read("l.no(l.s(l.a))"), 9), ("none", read("l.no(l.s(l.a))"), ()))
        self.assertEqual(worked(WORK, read("l.lost(l.a)"), 9), (
            "none", read("l.no(l.b)"), asked(("l.lost(l.a)", lost), ("l.f(l.a)", F), ("l.g(l.nil)", G))))
        self.assertEqual(worked(WORK, read("l.lost(l.b)"), 9), (
            "none", read("l.no(l.a)"), asked(("l.lost(l.b)", lost + 1), ("l.f(l.b)", F))))
        self.assertEqual(worked(WORK, read("l.on(l.s(l.a))"), 9), (
            "none", read("l.on(l.a)"), asked(("l.on(l.s(l.a))", l_row("l.on(l.s(x))")))))
        self.assertEqual(worked(WORK, read("l.same(l.a, l.b)"), 9)[:2], ("none", read("l.same(l.a, l.b)")))
        self.assertEqual(worked(WORK, read("l.same(l.s(l.b), l.s(l.b))"), 9)[:2], ("told", read("l.s(l.b)")))

    def test_many_at_each_most(self):
        for text in ["l.id(l.a)", "l.four(l.a)", "l.mix(l.nil, l.a, l.b)", "l.f(m.ex(m.em))", "l.add(m.ex(l.nil), l.late)"]:
            form = read(text)
            word, tree, asks = worked(WORK, form, 100)
            self.assertEqual(word, "told")
            for most in range(len(asks)):
                self.assertEqual(worked(WORK, form, most), ("many", asks[most][0], asks[:most]))
            for most in [len(asks), len(asks) + 1, 10 ** 6]:
                self.assertEqual(worked(WORK, form, most), ("told", tree, asks))

    def test_none_also_where_most_were_answered(self):
        for text, many in [("l.no(l.a)", 0), ("l.lost(l.a)", 3), ("l.lost(l.b)", 2), ("l.on(l.s(l.a))", 1)]:
            word, form, asks = worked(WORK, read(text), 100)
            self.assertEqual((word, len(asks)), ("none", many))
            for most in range(many):
                self.assertEqual(worked(WORK, read(text), most), ("many", asks[most][0], asks[:most]))
            for most in [many, many + 1]:
                self.assertEqual(worked(WORK, read(text), most), ("none", form, asks))

    def test_rows_that_ask_themselves_for_ever(self):
        for text, head in [("l.ever(l.a)", "l.ever(x)"), ("l.pile(l.a)", "l.pile(x)")]:
            for most in [0, 1, 2, 50, 100, 130]:
                self.assertEqual(worked(WORK, read(text), most), ("many", read(text), asked(*[(text, l_row(head))] * most)))
        for most in [0, 1, 7, 100, 130]:
            self.assertEqual(worked(WORK, ("l.grow", NIL), most), (
                "many", ("l.grow", tower(most + 1)),
                tuple((("l.grow", tower(deep)), ("l", 1), l_row("l.grow(x)")) for deep in range(1, most + 1))))

    def test_piles_of_asks_as_deep_as_most(self):
        word, form, asks = worked(WORK, ("l.on", tower(102)), 100)
        self.assertEqual((word, form, len(asks)), ("many", ("l.on", tower(2)), 100))
        self.assertEqual([ask[0] for ask in asks], [("l.on", tower(deep)) for deep in range(102, 2, -1)])

    def test_many_asks_of_one_answer(self):
        told = worked(WORK, ("l.on", tower(6)), 63)
        self.assertEqual((told[0], plainly.many_names(told[1]), len(told[2])), ("told", 63, 63))
        self.assertEqual(worked(WORK, ("l.on", tower(6)), 62), ("many", ("l.on", NIL), told[2][:62]))


class Great(unittest.TestCase):
    def told(self, form, word, at, many, most=100):
        """What is told: this word, with this form or tree, behind so many asks; and just as the plain way tells it."""
        told = worked(WORK, form, most)
        self.assertEqual((told[0], told[1] == at, len(told[2])), (word, True, many))
        self.assertEqual(told, plainly.worked(WORK, form, most))
        return told

    def test_a_form_handed_in_of_too_many_names(self):
        self.told(("l.f", bush(1999)), "told", ("l.a",), 1)
        self.told(("l.f", bush(2000)), "great", ("l.f", bush(2000)), 0)
        self.told(("l.same", bush(999), bush(1000)), "none", ("l.same", bush(999), bush(1000)), 0)
        self.told(("l.same", bush(999), bush(1001)), "great", ("l.same", bush(999), bush(1001)), 0)

    def test_a_form_handed_in_nested_too_deep(self):
        self.told(("l.f", tower(199)), "told", ("l.a",), 1)
        self.told(("l.f", tower(200)), "great", ("l.f", tower(200)), 0)
        form = ("l.mix", ("l.a",), ("l.b",), tower(200))
        self.told(form, "great", form, 0)
        form = ("l.same", tower(199), tower(199))
        self.told(form, "told", tower(199), 1)

    def test_a_form_handed_in_ahead_of_none_and_of_many(self):
        for form in [("l.no", bush(2000)), ("l.no", tower(200)), ("l.f", bush(2000)), ("z.z", bush(2000))]:
            for most in [0, 1, 9]:
                self.told(form, "great", form, 0, most)
        for most in [0, 1]:
            self.told(("l.no", bush(1999)), "none", ("l.no", bush(1999)), 0, most)
        self.told(("l.f", bush(1999)), "many", ("l.f", bush(1999)), 0, 0)

    def test_what_it_came_to_of_too_many_names(self):
        self.told(("l.id", bush(1999)), "told", bush(1999), 1)
        self.told(("l.one", bush(1999)), "told", ("l.s", bush(1999)), 1)
        self.told(("l.two", bush(1998)), "told", ("l.s", ("l.s", bush(1998))), 1)
        self.told(("l.two", bush(1999)), "great", ("l.two", bush(1999)), 1)
        self.told(("l.dup", bush(999)), "told", ("l.p", bush(999), bush(999)), 1)
        self.told(("l.dup", bush(1000)), "great", ("l.dup", bush(1000)), 1)
        self.told(("l.wide", bush(666)), "told", ("l.w", *[bush(666)] * 3), 1)
        self.told(("l.wide", bush(667)), "great", ("l.wide", bush(667)), 1)

    def test_what_it_came_to_nested_too_deep(self):
        self.told(("l.one", tower(199)), "told", tower(200), 1)
        self.told(("l.two", tower(198)), "told", tower(200), 1)
        self.told(("l.two", tower(199)), "great", ("l.two", tower(199)), 1)
        self.told(("l.dup", tower(199)), "told", ("l.p", tower(199), tower(199)), 1)

    def test_what_an_ask_within_came_to(self):
        self.told(("l.four", bush(499)), "told", plainly.told_by(ROOTS[6][l_row("l.dup(x)")], ("l.dup", ("l.p", bush(499), bush(499)))), 3)
        self.told(("l.four", bush(500)), "great", ("l.dup", ("l.p", bush(500), bush(500))), 3)
        self.told(("l.four", bush(1000)), "great", ("l.dup", bush(1000)), 2)
        self.told(("l.eight", bush(249)), "told", read_eight(bush(249)), 5)
        self.told(("l.eight", bush(250)), "great", ("l.dup", read_eight(bush(250))[1]), 5)
        self.told(("l.add", tower(2), tower(199)), "told", tower(200), 2)
        self.told(("l.add", tower(3), tower(199)), "great", ("l.add", tower(3), tower(199)), 3)
        self.told(("l.add", tower(7), tower(199)), "great", ("l.add", tower(3), tower(199)), 7)

    def test_only_what_it_came_to_counts_with_its_asks_worked_out(self):
        self.told(("l.thin", bush(1500)), "told", ("l.w", ("l.a",), ("l.a",), ("l.a",)), 4)
        self.told(("l.thin", tower(199)), "told", ("l.w", ("l.a",), ("l.a",), ("l.a",)), 4)

    def test_an_ask_that_is_due_ahead_of_none_and_of_many(self):
        rows = "l.due(x) = l.lost(l.w(x, x, x)); l.late(x) = l.p(l.due(x), l.lost(x))"
        book = (edition("l", 1, "", "nil, p 0 1, s 0, w 0 1 2", "due 0 deep, late 0 deep, lost 0 deep", "", rows),)
        for many, word, name in [(667, "great", "l.lost"), (666, "none", "l.lost")]:
            form = ("l.due", bush(many))
            ask = ("l.lost", ("l.w", *[bush(many)] * 3))
            for most in [1, 2]:
                self.assertEqual(worked(book, form, most), (word, ask, ((form, ("l", 1), 0),)))
            self.assertEqual(worked(book, form, 0), ("many", form, ()))
            self.assertEqual(worked(book, ("l.late", bush(many)), 9)[:2], (word, ask))

    def test_trees_that_double_again_and_again(self):
        for deep in [8, 9, 10, 11, 12, 50, 190]:
            form = ("l.dbl", tower(deep), ("l.a",))
            told = worked(WORK, form, 100)
            self.assertEqual(told, plainly.worked(WORK, form, 100))
            self.assertEqual(told[0], "told" if deep < 11 else "great")
        word, form, asks = worked(WORK, ("l.dbl", tower(50), ("l.a",)), 100)
        self.assertEqual((form[1], plainly.many_names(form[2]), len(asks)), (tower(40), 2047, 10))
        self.assertEqual(asks[-1][0][1], tower(41))
        word, form, asks = worked(WORK, ("l.on", tower(190)), 100)
        self.assertEqual((word, form, len(asks)), ("many", ("l.on", tower(90)), 100))

    def test_a_form_that_grows_till_it_is_great(self):
        word, form, asks = worked(WORK, ("l.grow", tower(150)), 100)
        self.assertEqual((word, form, len(asks)), ("great", ("l.grow", tower(200)), 50))
        word, form, asks = worked(WORK, ("l.grow", tower(150)), 49)
        self.assertEqual((word, form, len(asks)), ("many", ("l.grow", tower(199)), 49))
        self.assertEqual(worked(WORK, ("l.grow", tower(150)), 50)[:2], ("great", ("l.grow", tower(200))))

    def test_one_answer_of_many_great_trees(self):
        bushes = "l.w({0}, {0}, {0})".format("l.w({0}, {0}, {0})".format("l.w({0}, {0}, {0})".format("x")))
        book = (edition("l", 1, "", "nil, p 0 1, s 0, w 0 1 2", "all 0 deep, ask 0 deep, end 0 deep", "",
                        f"l.all(x) = {bushes}; l.ask(x) = l.end({bushes}); l.end(x) = l.nil"),)
        self.assertEqual(worked(book, ("l.all", bush(73)), 9)[0], "told")
        for many in [74, 1000, 1999]:
            self.assertEqual(worked(book, ("l.all", bush(many)), 9), ("great", ("l.all", bush(many)), ((("l.all", bush(many)), ("l", 1), 0),)))
            word, form, asks = worked(book, ("l.ask", bush(many)), 9)
            self.assertEqual((word, form[0], plainly.many_names(form), len(asks)), ("great", "l.end", 14 + 27 * many, 1))


def read_eight(form):
    two = ("l.p", form, form)
    four = ("l.p", two, two)
    return ("l.p", four, four)


class Made(unittest.TestCase):
    def test_many_books_as_told_plainly(self):
        dice = chance(201)
        found = {}
        for _ in range(400):
            book = some_work(dice)
            self.assertTrue(is_book(book), book)
            for form in some_asked(dice, book):
                most = dice.choice([0, 1, 2, 3, 5, 9, 40])
                told = worked(book, form, most)
                self.assertEqual(told, plainly.worked(book, form, most))
                self.assertEqual(told, worked(book, form, most))
                key = (told[0], min(len(told[2]), 3))
                found[key] = found.get(key, 0) + 1
        for word in ["told", "none", "many"]:
            self.assertGreater(found.get((word, 3), 0), 20, found)

    def test_asks_are_answered_as_the_book_answers_them(self):
        for form in [read("l.mix(l.late, m.em, m.ex(m.em))"), read("l.add(m.ex(l.late), l.s(l.a))")]:
            _, _, asks = worked(WORK, form, 100)
            self.assertGreater(len(asks), 4)
            for ask, key, number in asks:
                self.assertEqual(answers(WORK, ask), (key, number))

    def test_worked_out_in_a_house_it_is_worked_out_so_in_each_greater_one(self):
        dice = chance(202)
        books = [(WORK[:1], WORK[:2]), (WORK[:1], WORK), (WORK[:2], WORK)]
        for _ in range(100):
            book = some_work(dice)
            books.append((book[:1], book))
        found = {}
        for house, greater in books:
            for form in some_asked(dice, house):
                told, then = worked(house, form, 30), worked(greater, form, 30)
                found[told[0]] = found.get(told[0], 0) + 1
                if told[0] == "none":
                    self.assertEqual(then[2][:len(told[2])], told[2])
                else:
                    self.assertEqual(then, told)
        self.assertGreater(min(found[word] for word in ["told", "none", "many"]), 20, found)

    def test_houses_of_books_made_by_chance(self):
        dice = chance(203)
        for _ in range(40):
            book = some_book(dice, 8, 8)
            house = part(book, tuple(made[:2] for made in dice.sample(book, 2)))
            plain = plain_words(house)
            for verb, order, _ in [verb for made in house for verb in made[4]]:
                if plain:
                    form = (verb, *[dice.choice(plain) for _ in order])
                    told, then = worked(house, form, 9), worked(book, form, 9)
                    self.assertEqual(told, plainly.worked(house, form, 9))
                    self.assertTrue(then == told or told[0] == "none")

    def test_what_is_handed_in_stays_as_it_was(self):
        form = read("l.mix(l.late, m.em, m.ex(m.em))")
        first = worked(WORK, form, 100)
        self.assertEqual(worked(WORK, form, 100), first)
        self.assertEqual((form, WORK), (read("l.mix(l.late, m.em, m.ex(m.em))"), (ROOTS, MORE, LATE)))


if __name__ == "__main__":
    unittest.main()
