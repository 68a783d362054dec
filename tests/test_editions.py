import unittest

from aheadofholes.editions import is_edition
from tests import plainly
from tests.books import BOOK, L_ONE, some_book, with_field
from tests.papers import with_one_otherwise
from tests.reference import read
from tests.samples import Alike, Touchy, chance, things

LINE, NUMBER, SEES, WORDS, VERBS, GIVES, ROWS = range(7)

BARE = ("l", 1, (), (), (), (), ())
FULL = ("l", 4, (("k", 1), ("k", 3), ("m", 1)), (("l.cons", (1, 0)), ("l.nil", ())),
        (("l.add", (0, 1), "deep"), ("l.len", (0,), "wide")), (("l.add", "m"), ("m.tr", "l")),
        ((read("l.add(l.nil, x)"), "x"), (read("l.len(q)"), read("l.len(q)"))))


class Editions(unittest.TestCase):
    def says(self, wanted, at, *worths):
        for worth in worths:
            self.assertIs(is_edition(with_field(FULL, at, worth)), wanted, (at, repr(worth)[:80]))

    def test_editions(self):
        for made in BOOK + (BARE, FULL):
            self.assertIs(is_edition(made), True, made)
            self.assertIs(is_edition(thing=made), True)

    def test_lines(self):
        self.assertIs(is_edition(with_field(BARE, LINE, "abcdefgh")), True)
        for line in ["", "L", "l.a", "abcdefghi", "l ", None, ("l",), ["l"], b"l", 1, True, Alike()]:
            self.assertIs(is_edition(with_field(BARE, LINE, line)), False)

    def test_numbers(self):
        self.says(True, NUMBER, 1, 2, 60, 10 ** 4000)
        self.says(False, NUMBER, 0, -1, True, False, None, "1", (1,), [1], b"1", Alike(), Touchy())

    def test_sees(self):
        self.says(True, SEES, (), (("a", 1),), (("l", 1),), (("l", 9),), (("m", 2), ("m", 10)), (("ab", 7), ("b", 1)))
        self.says(False, SEES, (("m", 1), ("k", 1)), (("m", 2), ("m", 1)), (("m", 1), ("m", 1)),
                  (("k", 1), ("m", 1), ("m", 1)), (("m", 10), ("m", 2)), (("m", 0),), (("m", -1),), (("m", True),),
                  (("M", 1),), (("m.a", 1),), (("m", "1"),), (("m",),), (("m", 1, 1),), ((1, "m"),), ("m", 1), (["m", 1],),
                  [], [("m", 1)], None, "", {("m", 1)}, {("m", 1): 1}, (None,), ((),), (Alike(),), (("m", Alike()),),
                  (Touchy(),), (("m", Touchy()),), (("m", 1), None), (("", 1),))

    def test_words_and_verbs(self):
        self.says(True, WORDS, (), (("l.zed", (2, 0, 1)),), (("l.a", ()), ("l.b", ()), ("l.c", (0,))))
        self.says(True, VERBS, (), (("l.zed", (2, 0, 1), "deep"),), (("l.a", (), "wide"), ("l.b", (), "deep")))
        self.says(False, WORDS, (("l.nil", ()), ("l.cons", (1, 0))), (("l.nil", (1,)),), (("l.nil", (0, 0)),),
                  (("l.nil", (True,)),), (("l.nil", [0]),), (["l.nil", ()],), [("l.nil", ())], [], None, (None,), "",
                  (("l.nil",),), (("l.nil", (), "deep"),), (("nil", ()),), (("l.nil", (0, 1, 2, 3)),))
        self.says(False, VERBS, (("l.len", (0,), "wide"), ("l.app", (0, 1), "deep")), (("l.app", (0,), "both"),),
                  (("l.app", (1,), "deep"),), (("l.app", (), True),), (["l.app", (), "deep"],), [("l.app", (), "deep")],
                  [], None, (None,), (("l.app", ()),), (("l.app", (), "deep", ()),), (("app", (), "deep"),))

    def test_names_of_another_line(self):
        self.says(False, WORDS, (("m.nil", ()),), (("k.nil", ()), ("l.nil", ())), (("l.nil", ()), ("la.nil", ())),
                  (("l.nil", ()), ("ll.nil", ())))
        self.says(False, VERBS, (("m.now", (), "deep"),), (("l.now", (), "deep"), ("la.now", (), "deep")))

    def test_names_twice(self):
        self.says(False, WORDS, (("l.nil", ()), ("l.nil", ())), (("l.nil", ()), ("l.nil", (0,))), (("l.add", ()),),
                  (("l.len", (0,)),), (("l.a", ()), ("l.len", ())))
        self.says(False, VERBS, (("l.now", (), "deep"), ("l.now", (), "wide")), (("l.nil", (), "deep"),),
                  (("l.now", (), "deep"), ("l.now", (0,), "deep")), (("l.cons", (1, 0), "deep"),))

    def test_gives(self):
        self.says(True, GIVES, (), (("m.tr", "k"),), (("l.add", "l"),), (("x.y", "z"),), (("l.nil", "m"),),
                  (("l.add", "z"), ("l.len", "a")))
        self.says(False, GIVES, (("m.tr", "l"), ("l.add", "m")), (("l.add", "k"), ("l.add", "m")),
                  (("l.add", "m"), ("l.add", "m")), (("add", "m"),), (("l.add", "l.m"),), (("l.add", ""),),
                  (("l.add", None),), (("l.add",),), (("l.add", "m", "k"),), (["l.add", "m"],), [("l.add", "m")], [],
                  None, "", (None,), ("l.add", "m"), {"l.add": "m"}, (("m", "l.add"),), (("l.add", "m"), Alike()),
                  (Touchy(),), (Alike(),), (("l.add", Alike()),))

    def test_rows_of_any_heads_and_any_trees(self):
        self.says(True, ROWS, (), ((("nobody.told",), "x"),), ((read("l.nil(x, x)"), read("n.o(p.q, r)")),),
                  ((("l.add",), ("l.add", "loose")), (("l.add",), "x")), FULL[ROWS] * 10)
        self.says(False, ROWS, (("x", "x"),), (("x", ("l.nil",)),), ((("l.len", "x"), None),), ((None, "x"),),
                  ((("l.len", "x"),),), ((("l.len", "x"), "x", "x"),), ([("l.len", "x"), "x"],),
                  ((["l.len", "x"], "x"),), ((("l.len", "x"), ["l.nil"]),), [], [(("l.len", "x"), "x")], None, "",
                  ((("l.len", "x", "x", "x", "x"), "x"),), ((("len", "x"), "x"),), ((("l.len", "x"), "X"),),
                  ((("l.len", True), "x"),), (("l.len", "x"), "x"), (None,), ((),), (Alike(),), (Touchy(),))

    def test_a_part_left_out_put_in_or_a_list(self):
        for thing in [FULL[:-1], FULL[1:], FULL + ((),), FULL + (None,), list(FULL), (FULL,), FULL[::-1], (), ((),) * 7]:
            self.assertIs(is_edition(thing), False)
        for at in range(7):
            self.assertIs(is_edition(FULL[:at] + FULL[at + 1:]), False)
            self.assertIs(is_edition(FULL[:at] + FULL[at:at + 1] + FULL[at:]), False)

    def test_things_of_any_kind(self):
        for thing in things():
            self.assertIs(is_edition(thing), False)
            for at in range(7):
                bent = with_field(FULL, at, thing)
                self.assertIs(is_edition(bent), plainly.is_edition(bent))
                bent = with_field(FULL, at, (thing,))
                self.assertIs(is_edition(bent), plainly.is_edition(bent))

    def test_one_thing_otherwise_at_any_place(self):
        found = [0, 0]
        for made in (FULL, L_ONE, BARE) + some_book(chance(81), 3):
            for bent in with_one_otherwise(made):
                told = is_edition(bent)
                self.assertIs(told, plainly.is_edition(bent), repr(bent)[:300])
                found[told] += 1
        self.assertGreater(min(found), 100)

    def test_kinds_made_from_tuples_and_texts_are_not_trusted(self):
        class Row(tuple):
            pass

        class Text(str):
            pass

        self.assertIs(is_edition(Row(BARE)), False)
        self.assertIs(is_edition(with_field(BARE, SEES, Row())), False)
        self.assertIs(is_edition(with_field(BARE, LINE, Text("l"))), False)

    def test_what_is_asked_stays_as_it_was(self):
        bent = list(FULL)
        bent[SEES] = [["k", 1]]
        is_edition(bent)
        is_edition(with_field(FULL, SEES, bent[SEES]))
        self.assertEqual(bent, [*FULL[:SEES], [["k", 1]], *FULL[SEES + 1:]])


if __name__ == "__main__":
    unittest.main()
