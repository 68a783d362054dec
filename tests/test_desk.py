import unittest

from aheadofholes import errors
from aheadofholes.desk import Desk
from aheadofholes.editions import is_edition
from aheadofholes.errors import HoleError, NoLine, NoText, NotBook
from aheadofholes.rule import let_by
from aheadofholes.strangerlooks import shows_stranger
from aheadofholes.texts import read_edition, show_book, show_edition
from aheadofholes.treetexts import read_tree, show_tree
from tests import plainly
from tests.books import BOOK, K_ONE, L_ONE, L_TWO, M_ONE, edition, filled, plain_words, some_book, some_edition
from tests.samples import chance, some_head, things
from tests.test_rule import bent_a_little
from tests.works import WORK, some_asked, some_work

FATES = """edition m 3
word m.new 0
row m.mix(x, m.new(y)) = x
row l.add(x, m.new(y)) = x
row l.add(l.nil, l.nil) = l.nil
row k.say(l.nil) = l.nil
row m.mix(l.nil, l.nil) = l.nil
row m.mix(m.new(y), x) = x"""


def said(desk, line):
    """What a desk tells, or the name and the values of what it refuses."""
    return plainly.caught(desk.say, line)


class Asked(unittest.TestCase):
    """Lines that are asked of a desk with a book, each held against the plain way to tell of it, too."""

    def tells(self, book, line, told):
        desk = Desk(show_book(book))
        for _ in range(2):
            self.assertEqual(said(desk, line), told, line)
            self.assertEqual(plainly.desk_says(book, line), (told, book), line)
            self.assertEqual(desk.say("book"), show_book(book))

    def refused(self, book, line, name, *values):
        self.tells(book, line, (name, *values))
        with self.assertRaises(HoleError) as caught:
            Desk(show_book(book)).say(line=line)
        self.assertIs(type(caught.exception), getattr(errors, name))

    def test_book(self):
        self.tells(BOOK, "book", show_book(BOOK))
        self.tells((), "book", "none")

    def test_who(self):
        self.tells(BOOK, "who l.add(l.nil, l.s(l.nil))", "l 1 0")
        self.tells(BOOK, "who l.add(l.s(l.nil), k.kay)", "l 1 1")
        self.tells(BOOK, "who l.add(m.pair(l.nil, n.en), k.kay)", "m 1 0")
        self.tells(BOOK, "who k.say(n.en)", "n 1 0")
        self.tells(BOOK, "who k.say(l.nil)", "-")
        self.tells(BOOK, "who n.nod(l.nil, l.nil, l.nil)", "-")
        self.tells(WORK, "who l.f(l.late)", "l 2 1")
        self.tells(WORK, "who l.f(m.ex(l.late))", "m 1 3")
        book = tuple(edition("l", number) for number in range(1, 12)) + (
            edition("l", 12, "", "a", "v 0 deep", "", "; ".join(["l.v(l.a) = l.a"] * 14 + ["l.v(x) = x"])),)
        self.tells(book, "who l.v(l.a)", "l 12 0")
        self.tells(book[:11] + (edition("l", 12, "", "a, b", "v 0 deep", "", "; ".join(["l.v(l.a) = l.a"] * 14 + ["l.v(x) = x"])),),
                   "who l.v(l.b)", "l 12 14")

    def test_ask(self):
        self.tells(WORK, "ask 9 l.h(l.a)", "told l.p(l.a, l.b)")
        self.tells(WORK, "ask 3 l.h(l.a)", "told l.p(l.a, l.b)")
        self.tells(WORK, "ask 2 l.h(l.a)", "many l.g(l.a)")
        self.tells(WORK, "ask 0 l.h(l.a)", "many l.h(l.a)")
        self.tells(WORK, "ask 9 l.lost(l.a)", "none l.no(l.b)")
        self.tells(WORK, "ask 0 l.no(l.a)", "none l.no(l.a)")
        self.tells(WORK, "ask 130 l.ever(l.a)", "many l.ever(l.a)")
        tower = "l.s(" * 198 + "l.a" + ")" * 198
        self.tells(WORK, f"ask 9 l.one({tower})", f"told l.s({tower})")
        self.tells(WORK, f"ask 9 l.two({tower})", f"great l.two({tower})")
        self.tells(WORK, f"ask 0 l.no(l.s({tower}))", f"great l.no(l.s({tower}))")
        self.tells(WORK, f"ask 999999 l.grow({tower})", f"great l.grow(l.s({tower}))")

    def test_meet(self):
        for book in [(), BOOK]:
            self.tells(book, "meet l.f(x, l.a) & l.f(l.b, y)", "l.f(l.b, l.a)")
            self.tells(book, "meet q.f(z, y) & q.f(x, x)", "q.f(a, a)")
            self.tells(book, "meet q.f(z, y) & q.f(y, z)", "q.f(a, b)")
            self.tells(book, "meet q.f(x, x) & q.f(y, q.s(y))", "never")
            self.tells(book, "meet q.f & q.g", "never")
            self.tells(book, "meet q.f & q.f", "q.f")
            self.tells(book, "meet q.f & q.f(x)", "never")

    def test_look(self):
        self.tells(BOOK, "look l.add(l.s(l.nil), x)", "l.add l.s l.nil x")
        self.tells(BOOK, "look l.add(x, l.nil)", "l.add x")
        self.tells(BOOK, "look m.mix(x, m.pair(y, l.s(n.en)))", "m.mix m.pair l.s n.en y")
        self.tells(BOOK, "look n.nod(l.s(k.kay), l.s(l.nil), l.s(x))", "n.nod l.s l.s l.s x")
        self.tells(BOOK, "look n.nod(l.s(k.kay), l.s(l.nil), l.nil)", "n.nod l.nil l.s l.s k.kay l.nil")
        self.tells((edition("l", 1, "", "", "now deep"),), "look l.now", "l.now")

    def test_fate(self):
        for number, told in enumerate(["own 1", "holed 1", "answered l 1 0", "stray", "home", "holed 1"]):
            self.tells(BOOK, f"fate {number}\n{FATES}", told)
        self.tells((), f"fate 0\n{show_edition(L_ONE)}", "own 0")
        self.tells((), f"fate 1\n{show_edition(L_ONE)}", "own 0")

    def test_stranger(self):
        desk = Desk(show_book(BOOK))
        for number, told in enumerate([False, True, False, True, False, True]):
            line = f"stranger {number}\n{FATES}"
            wanted, book = plainly.desk_says(BOOK, line)
            self.assertEqual((wanted != "-", book), (told, BOOK))
            if told:
                self.hold_stranger(BOOK, read_edition(FATES), number, desk.say(line))
            else:
                self.assertEqual(desk.say(line), "-")
            self.assertEqual(desk.say("book"), show_book(BOOK))

    def hold_stranger(self, book, made, number, text):
        """It is the text of an edition, an empty row, and the text of a form, which show that the row would be met."""
        first, second = text.split("\n\n")
        thing = (read_edition(first), read_tree(second))
        self.assertEqual((show_edition(thing[0]), show_tree(thing[1])), (first, second))
        self.assertTrue(shows_stranger(book, made, number, thing))
        self.assertTrue(plainly.shows_stranger(book, made, number, thing))

    def test_no_such_row(self):
        for word in ["fate", "stranger"]:
            for number in [6, 7, 20, 999999]:
                self.refused(BOOK, f"{word} {number}\n{FATES}", "NoRow", number)
            self.refused(BOOK, f"{word} 0\nedition z 1", "NoRow", 0)
            self.refused(BOOK, f"{word} 9\nedition l 9", "NotNext", 9)
            self.refused(BOOK, f"{word} 9\nedition l 9 ", "NoText")
            self.refused(BOOK, f"{word} 0\nedition z 1\nsees l 1\nrow l.add(x, y) = z", "Loose", 0)
            self.refused(BOOK, f"{word} 3\nedition z 1\nsees l 1\nrow l.add(x, y) = z", "Loose", 0)

    def test_refused_as_read_edition_and_then_as_let_by(self):
        for text, name, *values in [
            ("", "NoText"), ("none", "NoText"), ("edition l", "NoText"), ("edition l 3\n", "NoText"), ("edition l 0", "NoText"),
            (show_book(BOOK), "NoText"), ("edition l 1\nrow x = x", "NoText"), ("edition l 4", "NotNext", 4), ("edition l 1", "NotNext", 1),
            ("edition l 3\nsees k 1\nsees k 2", "NotOut", ("k", 2)), ("edition l 3\nword l.nil\nverb l.s deep", "Told", "l.nil"),
            ("edition l 3\nrow k.say(x) = x", "Unheard", "k.say"), ("edition l 3\nrow l.add(x, l.add(x, y)) = x", "Unheard", "l.add"),
            ("edition l 3\ngives l.add l", "NotKept", "l.add"), ("edition l 3\nverb l.v 0 deep\nrow l.v(x) = y", "NoText"),
            ("edition l 3\nverb l.v deep 0\nrow l.v(x) = y", "Loose", 0),
        ]:
            for word in ["publish", "fate 0", "stranger 0"]:
                self.refused(BOOK, f"{word}\n{text}", name, *values)

    def test_publish_is_refused_for_rows_fates_too(self):
        for row, name, *values in [("l.add(x, y) = x", "Holed", 0, 1), ("l.add(l.nil, l.nil) = l.nil", "Answered", 0, ("l", 1)),
                                   ("m.mix(l.nil, l.nil) = l.nil", "Stray", 0)]:
            text = f"edition z 1\nsees m 2\nrow {row}"
            self.refused(BOOK, f"publish\n{text}", name, *values)
            self.assertIsInstance(Desk(show_book(BOOK)).say(f"fate 0\n{text}"), str)

    def test_texts_that_are_no_head_and_no_form(self):
        for text in ["", " ", "l.", "x y", "l.add(", "l.add()", "l.add(l.nil,l.nil)", " l.add(l.nil, l.nil)", "l.add(l.nil, l.nil) ",
                     "l.add(l.nil,\nl.nil)", "l.add(l.nil, l.nil)\n", "\nl.add(l.nil, l.nil)", "x", "l.add(l.nil, l.nil))", "\n", "-", "l.add(x",
                     "L.add", "l.add(l.nil, l.nil)\n\n", "(" * 5000, "l.s(" * 4000, "l.s(" * 3000 + "l.nil" + ")" * 3000]:
            told = [("NoText",)] * 4
            desk = Desk(show_book(BOOK))
            self.assertEqual([said(desk, f"{line} {text}") for line in ["who", "ask 5", "look", "meet l.a &"]], told, text[:50])
            self.assertEqual(said(desk, f"meet {text} & l.a"), ("NoText",))
            if len(text) < 99:
                for line in ["who", "ask 5", "look", "meet l.a &"]:
                    self.refused(BOOK, f"{line} {text}", "NoText")
        for line in ["who", "ask 5"]:
            for text in ["l.add(x, l.nil)", "l.add(l.nil, l.s(y))", "z.z(x)", "x"]:
                self.refused(BOOK, f"{line} {text}", "NoText")
        self.refused(BOOK, "meet x & l.a", "NoText")
        self.refused(BOOK, "meet l.a & x", "NoText")
        self.refused(BOOK, "meet  & ", "NoText")

    def test_names_that_the_book_does_not_tell_so(self):
        for text, name in [
            ("z.z", "z.z"), ("l.nil", "l.nil"), ("l.add", "l.add"), ("l.add(l.nil)", "l.add"), ("l.add(l.nil, l.nil, l.nil)", "l.add"),
            ("l.add(z.b, z.a)", "z.b"), ("l.add(l.nil, z.a)", "z.a"), ("l.add(l.add(l.nil, l.nil), z.z)", "l.add"), ("z.z(z.y)", "z.z"),
            ("l.add(l.nil(z.a), z.b)", "l.nil"), ("l.add(l.s, z.b)", "l.s"), ("l.add(l.s(z.a), l.s)", "z.a"), ("k.kay(k.say)", "k.kay"),
            ("m.mix(l.s(m.pair(l.nil, k.say(k.kay))), z.z)", "k.say"), ("n.nod(l.nil, l.nil)", "n.nod"), ("l.add(l.nil, m.pair(l.nil))", "m.pair"),
        ]:
            for line in ["who", "ask 5", "ask 0", "look"]:
                self.refused(BOOK, f"{line} {text}", "Unheard", name)
            for line in ["who", "ask 5", "look"]:
                self.assertEqual(said(Desk(), f"{line} {text}"), ("Unheard", read_tree(text)[0]))
        self.refused(BOOK, "look l.add(x, z.z(y))", "Unheard", "z.z")
        self.refused(BOOK[:1], "who l.add(k.kay, l.nil)", "Unheard", "k.kay")
        self.refused(BOOK[:2], "look l.add(l.s(x, y), m.pair(x, y))", "Unheard", "l.s")


class Lines(unittest.TestCase):
    NONE = [
        "", " ", "\n", "books", "Book", " book", "book ", "book\n", "book book", "boo", "book 1", "publish", "publish ", "publish edition l 1",
        "publish \nedition l 1", " publish\nedition l 1", "publish\tedition l 1", "publish 0\nedition l 1", "Publish\nedition l 1", "publis\n",
        "fate", "fate ", "fate 0", "fate 0 ", "fate\nedition l 1", "fate \nedition l 1", "fate 0 \nedition l 1", "fate  0\nedition l 1",
        "fate 00\nedition l 1", "fate 01\nedition l 1", "fate +0\nedition l 1", "fate -1\nedition l 1", "fate 1000000\nedition l 1",
        "fate 0 edition l 1", "fate x\nedition l 1", "fate 0\redition l 1", "fate 0 1\nedition l 1", "fate\n0\nedition l 1", "fates 0\n",
        "stranger", "stranger 0", "stranger 0 \n", "stranger  0\n", "stranger 00\n", "stranger 1234567\n", "stranger -\n", "stranger \n",
        "stranger 0 edition l 1", "stranger 1.0\n", "stranger\n0\n", "who", "whol.add", "who\nl.add(l.nil, l.nil)", "who\tl.now", " who l.now",
        "Who l.now", "whom l.now", "ask", "ask ", "ask 5", "ask l.now", "ask  l.now", "ask  5 l.now", "ask 05 l.now", "ask 5\nl.now",
        "ask 5.0 l.now", "ask -5 l.now", "ask +5 l.now", "ask 1000000 l.now", "ask 0000005 l.now", "ask five l.now", "ask 5, l.now", "ask \u0665 l.now",
        "ask 5l.now", "ask\n5 l.now", " ask 5 l.now", "ask \u00b2 l.now", "meet", "meet ", "meet l.a", "meet l.a l.b", "meet l.a&l.b", "meet l.a &l.b",
        "meet l.a& l.b", "meet & l.a", "meet l.a &", "meet l.a & l.b & l.c", "meet l.a &  & l.b", "meet  &  & ", "meet\nl.a & l.b", "meet l.a\n&\nl.b",
        "meet l.a and l.b", " meet l.a & l.b", "meets l.a & l.b", "look", "looks l.now", "look\nl.now", " look l.now", "Look l.now", "told l.a", "-",
        "none", "edition l 1", "let_by", "len", "l.add(l.nil, l.nil)", "say book", "book who l.now", "\nbook", "5 ask l.now",
    ]

    def test_what_is_no_line(self):
        desk = Desk(show_book(BOOK))
        for line in self.NONE:
            with self.assertRaises(NoLine, msg=line) as caught:
                desk.say(line)
            self.assertEqual(vars(caught.exception), {"line": line})
            self.assertIsInstance(caught.exception, HoleError)
            self.assertEqual(plainly.desk_says(BOOK, line)[0], ("NoLine", line))
        self.assertEqual(desk.say("book"), show_book(BOOK))

    def test_any_text_may_stand_behind_the_one_blank_or_line_feed(self):
        desk = Desk(show_book(BOOK))
        texts = ["", " ", "\n", "\n\n", " x", "x\ny", "x&y", "book", "1 2", "who l.now", "edition l 1\n\nedition l 2"]
        for start in ["who ", "look ", "ask 0 ", "ask 999999 ", "publish\n", "fate 0\n", "stranger 999999\n", "meet l.a & ", "meet \n & "]:
            for text in texts:
                self.assertEqual(said(desk, start + text), ("NoText",), start + text)
                self.assertEqual(plainly.desk_says(BOOK, start + text)[0], ("NoText",), start + text)
        for start in ["who ", "look ", "ask 5 ", "publish\n"]:
            self.assertEqual(said(desk, start + "l.a & l.b & l.c"), ("NoText",))

    def test_a_sign_out_put_in_or_in_anothers_place(self):
        desk, found = Desk(show_book(BOOK)), {}
        for line in ["book", "who k.say(n.en)", "ask 10 k.say(n.en)", "meet l.f(x) & l.f(l.a)", "look k.say(x)", "fate 0\nedition z 1\nsees l 1\nrow"
                     " l.add(x, y) = x", "stranger 0\nedition z 1\nsees l 1\nrow l.add(x, l.nil) = x"]:
            for at in range(len(line) + 1):
                for sign in ["", *" \n0&(.xl"]:
                    for then in (0, 1):
                        self.hold(desk, line[:at] + sign + line[at + then:], found)
        self.assertGreater(min(found[name] for name in ["told", "NoLine", "NoText", "Unheard"]), 100, found)
        self.assertGreater(len(found), 5, found)
        self.assertEqual(desk.say("book"), show_book(BOOK))

    def hold(self, desk, line, found):
        wanted, book = plainly.desk_says(BOOK, line)
        told = said(desk, line)
        name = wanted[0] if type(wanted) is tuple and type(wanted[0]) is str else "told"
        found[name] = found.get(name, 0) + 1
        if name == "told" and type(wanted) is tuple:
            self.assertTrue(shows_stranger(BOOK, *wanted, tuple(read(part) for read, part in zip([read_edition, read_tree],
                                                                                               told.split("\n\n")))))
        else:
            self.assertEqual(told, wanted, line)
        self.assertEqual(book, BOOK)

    def test_things_of_any_kind(self):
        desk = Desk(show_book(BOOK))
        for thing in things() + [b"book", ["book"], ("book",), ("who", "l.now"), BOOK, L_ONE]:
            with self.assertRaises(NoLine) as caught:
                desk.say(thing)
            self.assertIs(caught.exception.line, thing)
        self.assertEqual(desk.say("book"), show_book(BOOK))


class Desks(unittest.TestCase):
    def test_a_new_desk(self):
        self.assertEqual(Desk().say("book"), "none")
        self.assertEqual(Desk("none").say(line="book"), "none")
        self.assertEqual(Desk(text=show_book(BOOK)).say("book"), show_book(BOOK))

    def test_refused_as_the_book_is_read(self):
        for thing in things() + ["", "none ", "edition", "edition l 1\n", show_book(BOOK).encode(), BOOK, (), None]:
            with self.assertRaises(NoText):
                Desk(thing)
        for text, number in [("edition l 2", 0), (show_book((L_ONE, M_ONE, L_ONE)), 2), (show_book((M_ONE, L_ONE)), 0)]:
            with self.assertRaises(NotBook) as caught:
                Desk(text)
            self.assertEqual(caught.exception.number, number)

    def test_publish_puts_it_behind(self):
        desk = Desk()
        for number, made in enumerate(BOOK):
            self.assertEqual(desk.say("publish\n" + show_edition(made)), f"{made[0]} {made[1]}")
            self.assertEqual(desk.say("book"), show_book(BOOK[:number + 1]))
        desk = Desk(show_book((L_ONE,)))
        self.assertEqual(desk.say("who l.add(l.nil, l.nil)"), "l 1 0")
        self.assertEqual(said(desk, "who k.say(k.kay)"), ("Unheard", "k.say"))
        self.assertEqual(desk.say("publish\n" + show_edition(K_ONE)), "k 1")
        self.assertEqual(desk.say("who k.say(k.kay)"), "k 1 0")
        self.assertEqual(desk.say("book"), show_book((L_ONE, K_ONE)))

    def test_what_is_refused_changes_nothing(self):
        desk = Desk(show_book(BOOK[:2]))
        for line in ["publish\n" + show_edition(L_ONE), "publish\nedition l 3", "publish\nedition l 2 ", "publish\n", "publish", "who x", "look z.z",
                     "publish\nedition l 2\nrow l.add(x, x) = x", "publish\nedition l 2\nword l.nil", "fate 9\n" + show_edition(L_TWO), "book "]:
            self.assertIs(type(said(desk, line)), tuple)
            self.assertEqual(desk.say("book"), show_book(BOOK[:2]))
        self.assertEqual(desk.say("publish\n" + show_edition(L_TWO)), "l 2")

    def test_fate_and_stranger_change_nothing(self):
        desk = Desk(show_book(BOOK[:2]))
        for _ in range(3):
            self.assertEqual(desk.say("fate 0\n" + show_edition(M_ONE)), "own 1")
            self.assertEqual(desk.say("stranger 0\n" + show_edition(M_ONE)), "-")
            self.assertEqual(desk.say("book"), show_book(BOOK[:2]))

    def test_two_desks_hear_nothing_of_one_another(self):
        one, other = Desk(), Desk()
        one.say("publish\n" + show_edition(L_ONE))
        self.assertEqual((one.say("book"), other.say("book"), Desk().say("book")), (show_book((L_ONE,)), "none", "none"))
        self.assertEqual(said(other, "publish\n" + show_edition(M_ONE)), ("NotOut", ("l", 1)))
        other.say("publish\n" + show_edition(K_ONE))
        self.assertEqual((one.say("book"), other.say("book")), (show_book((L_ONE,)), show_book((K_ONE,))))
        third = Desk(one.say("book"))
        third.say("publish\n" + show_edition(M_ONE))
        self.assertEqual(one.say("book"), show_book((L_ONE,)))

    def test_desks_by_chance_answer_as_all_the_others_do(self):
        dice = chance(251)
        found = {}
        for _ in range(25):
            book, desk = (), Desk()
            for _ in range(30):
                line = some_line(dice, book)
                wanted, after = plainly.desk_says(book, line)
                told = said(desk, line)
                if line.startswith("stranger") and type(wanted) is tuple and is_edition(wanted[0]):
                    thing = tuple(read(part) for read, part in zip([read_edition, read_tree], told.split("\n\n")))
                    self.assertTrue(shows_stranger(book, *wanted, thing))
                else:
                    self.assertEqual(told, wanted, line)
                book = after
                self.assertEqual(desk.say("book"), show_book(book))
                key = (line.split()[0], type(told).__name__)
                found[key] = found.get(key, 0) + 1
            self.hold_read_back(dice, desk, book)
        for word in ["publish", "fate", "stranger", "who", "ask", "look"]:
            self.assertGreater(min(found[word, "str"], found[word, "tuple"]), 10, found)
        self.assertGreater(min(found["book", "str"], found["meet", "str"]), 10, found)

    def hold_read_back(self, dice, desk, book):
        """A desk with what the other one tells as its book answers alike."""
        other = Desk(desk.say("book"))
        for _ in range(20):
            line = some_line(dice, book)
            self.assertEqual(said(desk, line), said(other, line))
            if line.startswith("publish"):
                book = plainly.desk_says(book, line)[1]

    def test_what_is_worked_out_at_desks_by_chance(self):
        dice = chance(252)
        found = {}
        for _ in range(60):
            book = some_work(dice)
            desk = Desk(show_book(book))
            for form in some_asked(dice, book):
                line = f"ask {dice.choice([0, 1, 2, 5, 50])} {show_tree(form)}"
                told = said(desk, line)
                self.assertEqual(told, plainly.desk_says(book, line)[0])
                found[told.split()[0]] = found.get(told.split()[0], 0) + 1
        self.assertGreater(min(found[word] for word in ["told", "none", "many"]), 20, found)


def some_line(dice, book):
    """A line of any sort that may be asked of a desk with the book, sometimes one that is due to be refused."""
    trees = plain_words(book) + [("z.z",)] * (dice.random() < 0.1) + ["x"]
    heads = [row[0] for made in book for row in made[6]] + [some_head(dice, 3)]
    head, then = dice.choice(heads), dice.choice(heads)
    form = show_tree(filled(dice, head, trees))
    made = some_edition(dice, book)
    text = show_edition(dice.choice([made, made, made, tuple(bent_a_little(dice, made))]))
    number = dice.randrange(3) if dice.random() < 0.8 else dice.choice([0, 7, 10 ** 6])
    line = dice.choice(["book", "publish\n" + text, "publish\n" + show_edition(made[:6] + ((),)), f"fate {number}\n{text}",
                        f"stranger {number}\n{text}", f"who {form}", f"ask {dice.randrange(9)} {form}",
                        f"meet {show_tree(head)} & {show_tree(then)}", f"look {show_tree(head)}"])
    return line if dice.random() < 0.95 else line + dice.choice([" ", "\n", "x", " & ", "0"])


class Made(unittest.TestCase):
    def test_publish_is_refused_just_as_let_by_refuses(self):
        dice = chance(253)
        found = {}
        for _ in range(300):
            book = some_book(dice, dice.randrange(5), 2)
            made = tuple(bent_a_little(dice, some_edition(dice, book, 4)))
            told = said(Desk(show_book(book)), "publish\n" + show_edition(made))
            wanted = plainly.caught(let_by, book, made) or f"{made[0]} {made[1]}"
            if not is_edition(made):
                wanted = ("NoText",)
            self.assertEqual(told, wanted)
            found[str(told[0])] = found.get(str(told[0]), 0) + 1
        self.assertGreater(len(found), 8, found)


if __name__ == "__main__":
    unittest.main()
