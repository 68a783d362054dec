import unittest

from aheadofholes.working import worked
from aheadofholes.worklooks import shows_worked
from tests.papers import with_one_otherwise
from tests.plainly import caught
from tests.reference import is_same_kind, read
from tests.samples import Alike, Touchy, chance, deep, things
from tests.works import WORK, bush, some_asked, some_work, tower

MANY_SORTS = [("l.mix(l.nil, l.a, l.s(l.b))", 20), ("l.h(l.nil)", 9), ("l.lost(l.a)", 9), ("l.lost(l.b)", 2), ("l.ever(l.a)", 4),
              ("l.now", 0), ("l.now", 1), ("l.now", 2), ("l.no(l.a)", 0), ("l.f(m.ex(m.em))", 50), ("l.thin(l.a)", 9)]


class Looks(unittest.TestCase):
    def shows(self, wanted, form, most, thing, book=WORK):
        self.assertIs(shows_worked(book, form, most, thing), wanted)

    def test_what_is_told(self):
        for text, most in MANY_SORTS:
            form = read(text)
            self.shows(True, form, most, worked(WORK, form, most))
        for form in [("l.f", bush(2000)), ("l.dup", bush(1000)), ("l.two", tower(199)), ("l.four", bush(500)), ("l.add", tower(9), tower(199))]:
            self.shows(True, form, 100, worked(WORK, form, 100))
        self.assertIs(shows_worked(book=WORK, form=read("l.now"), most=2, thing=worked(WORK, read("l.now"), 2)), True)

    def test_what_was_written_by_hand(self):
        number = worked(WORK, ("l.now",), 1)[2][0][2]
        thing = ("told", ("l.a",), ((("l.now",), ("l", 1), number), (("l.id", ("l.a",)), ("l", 1), number - 1)))
        self.shows(True, ("l.now",), 2, thing)
        self.shows(True, ("l.now",), 3, thing)
        self.shows(False, ("l.now",), 1, thing)
        self.shows(True, ("l.now",), 0, ("many", ("l.now",), ()))
        self.shows(False, ("l.now",), 0, ("many", ("l.now",), thing[2][:1]))

    def test_one_thing_otherwise_at_any_place(self):
        for text, most in MANY_SORTS[:9]:
            form = read(text)
            told = worked(WORK, form, most)
            for bent in with_one_otherwise(told):
                self.shows(is_same_kind(bent, told), form, most, bent)

    def test_another_word(self):
        for text, most in MANY_SORTS:
            form = read(text)
            told = worked(WORK, form, most)
            for word in ["told", "none", "many", "great", "Told", "", "tol", None, ("told",), b"told"]:
                self.shows(word == told[0], form, most, (word, *told[1:]))

    def test_asks_left_out_twice_exchanged_or_of_another_row(self):
        form = read("l.mix(l.nil, l.a, l.s(l.b))")
        word, tree, asks = worked(WORK, form, 20)
        for at, (ask, key, number) in enumerate(asks):
            for row in [(ask, key, number + 1), (ask, ("l", 2), number), (ask, ("m", 1), number), (ask, key, number, number),
                        (ask, key), (ask, list(key), number), [ask, key, number], (ask, key, str(number)), (key, ask, number),
                        (list(ask), key, number), (ask, (key[0], True), number), (tree, key, number), None]:
                self.shows(False, form, 20, (word, tree, asks[:at] + (row,) + asks[at + 1:]))
            self.shows(False, form, 20, (word, tree, asks[:at] + asks[at + 1:]))
            self.shows(False, form, 20, (word, tree, asks[:at] + asks[at:at + 1] + asks[at:]))
            self.shows(False, form, 20, (word, tree, asks[:at]))
            for then in range(at):
                turned = list(asks)
                turned[at], turned[then] = turned[then], turned[at]
                self.shows(tuple(turned) == asks, form, 20, (word, tree, tuple(turned)))
        self.shows(False, form, 20, (word, tree, list(asks)))
        self.shows(False, form, 20, [word, tree, asks])

    def test_a_truth_for_a_number(self):
        form = read("l.add(l.nil, l.a)")
        told = worked(WORK, form, 9)
        self.assertEqual(told, ("told", ("l.a",), ((form, ("l", 1), 0),)))
        self.shows(True, form, 9, told)
        self.shows(False, form, 9, ("told", ("l.a",), ((form, ("l", 1), False),)))
        self.shows(False, form, 9, ("told", ("l.a",), ((form, ("l", True), 0),)))
        form = read("l.add(l.s(l.nil), l.a)")
        asks = worked(WORK, form, 9)[2]
        self.assertEqual(asks[0][2], 1)
        self.shows(False, form, 9, ("told", ("l.s", ("l.a",)), ((form, ("l", 1), True),) + asks[1:]))

    def test_of_another_most_and_of_another_form(self):
        found = [0, 0]
        for text, most in MANY_SORTS:
            for other, then in MANY_SORTS:
                told = worked(WORK, read(other), then)
                for least in [most, then, 0, 100]:
                    wanted = told == worked(WORK, read(text), least)
                    self.shows(wanted, read(text), least, told)
                    found[wanted] += 1
        self.assertGreater(min(found), 20)

    def test_things_of_any_kind(self):
        form = read("l.h(l.nil)")
        word, tree, asks = worked(WORK, form, 9)
        for thing in things() + [deep(tuple, 28, asks), deep(list, 28, asks), Alike(), Touchy(), WORK, form]:
            for made in [thing, (thing,), (thing, thing, thing), (word, tree, thing), (word, thing, asks), (thing, tree, asks),
                         (word, tree, asks, thing), (word, tree, (thing,)), (word, tree, (thing,) + asks[1:]),
                         (word, tree, asks[:2] + (thing,)), (word, tree, asks[:2] + ((thing, *asks[2][1:]),)),
                         (word, tree, asks[:2] + ((asks[2][0], thing, asks[2][2]),)), (word, (tree[0], thing, tree[2]), asks)]:
                self.assertIsNone(caught(self.shows, False, form, 9, made))

    def test_things_that_share_their_parts(self):
        shared = ("l.a",)
        for _ in range(28):
            shared = ("l.p", shared, shared)
        form = ("l.dup", tower(4))
        for thing in [shared, ("told", shared, ()), ("great", shared, shared), ("told", ("l.p", shared, shared), shared)]:
            self.shows(False, form, 9, thing)

    def test_kinds_made_of_tuples_texts_and_numbers(self):
        class Tuple(tuple):
            pass

        class Text(str):
            pass

        class Number(int):
            pass

        form = ("l.f", ("l.a",))
        word, tree, asks = worked(WORK, form, 9)
        (ask, key, number), = asks
        self.shows(True, form, 9, (word, tree, ((ask, key, number),)))
        for thing in [Tuple((word, tree, asks)), (Text(word), tree, asks), (word, Tuple(tree), asks), (word, tree, Tuple(asks)),
                      (word, (Text("l.a"),), asks), (word, tree, ((ask, key, Number(number)),)),
                      (word, tree, ((ask, (Text("l"), 1), number),)), (word, tree, ((ask, ("l", Number(1)), number),))]:
            self.shows(False, form, 9, thing)

    def test_books_made_by_chance(self):
        dice = chance(211)
        found = [0, 0]
        for _ in range(60):
            book = some_work(dice)
            forms = some_asked(dice, book)
            told = [worked(book, form, most) for form in forms for most in (0, 3, 20)]
            for form in forms:
                for thing in told:
                    wanted = thing == worked(book, form, 20)
                    self.shows(wanted, form, 20, thing, book)
                    found[wanted] += 1
        self.assertGreater(min(found), 100)

    def test_what_is_handed_in_stays_as_it_was(self):
        thing = ["told", ["l.a"], []]
        self.shows(False, ("l.now",), 9, thing)
        self.assertEqual(thing, ["told", ["l.a"], []])


if __name__ == "__main__":
    unittest.main()
