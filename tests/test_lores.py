import itertools
import unittest

from aheadofholes.lores import is_lore, is_of, is_verb, is_word
from tests.reference import read
from tests.samples import chance, things

ORDERS = [order for many in range(4) for order in itertools.permutations(range(many))]
NO_ORDERS = [(1,), (-1,), (0, 0), (1, 1), (0, 2), (1, 2), (0, 1, 1), (0, 1, 3), (1, 2, 3), (0, -1), (0, 1, 2, 3), (True,),
             (False,), (0, True), (False, 1), (0, 1, True), (None,), ("0",), ((0,),), [], [0], [0, 1], 0, None, "", "01",
             range(0), range(1), {}, set(), (0, 1, None), (0, "1"), (0, [1])]

WORDS = (("l.cons", (1, 0)), ("l.nil", ()), ("m.s", (0,)), ("m.tri", (2, 0, 1)))
VERBS = (("l.len", (0,), "deep"), ("l.now", (), "wide"), ("m.add", (1, 0), "wide"), ("m.tr", (0, 1, 2), "deep"))
LORE = (WORDS, VERBS)


class WordsAndVerbs(unittest.TestCase):
    def test_words(self):
        for order in ORDERS:
            self.assertIs(is_word(("l.a", order)), True, order)
        self.assertIs(is_word(thing=("abcdefgh.abcdefgh", ())), True)

    def test_verbs(self):
        for order in ORDERS:
            for way in ["deep", "wide"]:
                self.assertIs(is_verb(("l.a", order, way)), True, order)
        self.assertIs(is_verb(thing=("l.a", (), "deep")), True)

    def test_orders_that_are_none(self):
        for order in NO_ORDERS + things():
            if type(order) is tuple and len(order) < 2 and all(type(number) is int and not number for number in order):
                continue
            self.assertIs(is_word(("l.a", order)), False)
            self.assertIs(is_verb(("l.a", order, "deep")), False)

    def test_names_that_are_none(self):
        for full in ["", "l", "l.", "l.A", "l.a.b", "abcdefghi.a", None, ("l.a",), ["l.a"], b"l.a"] + things():
            self.assertIs(is_word((full, ())), False)
            self.assertIs(is_verb((full, (), "deep")), False)

    def test_ways_other_than_deep_and_wide(self):
        for way in ["", "Deep", "deep ", "wid", "both", None, True, 0, b"deep", ("deep",), ["deep"]] + things():
            self.assertIs(is_verb(("l.a", (), way)), False)

    def test_other_forms(self):
        for thing in [("l.a",), ("l.a", (), "deep", ()), ["l.a", ()], ["l.a", (), "deep"], ((), "l.a"), "l.a", (),
                      (("l.a", ()),), ("l.a", "deep", ()), ("deep", "l.a", ())]:
            self.assertIs(is_word(thing), False, thing)
            self.assertIs(is_verb(thing), False, thing)
        self.assertIs(is_word(("l.a", (), "deep")), False)
        self.assertIs(is_verb(("l.a", ())), False)

    def test_things_of_any_kind(self):
        for thing in things():
            self.assertIs(is_word(thing), False)
            self.assertIs(is_verb(thing), False)


class Lores(unittest.TestCase):
    def test_lores(self):
        for lore in [((), ()), LORE, (WORDS, ()), ((), VERBS), ((("l.a", ()),), (("l.b", (), "deep"),))]:
            self.assertIs(is_lore(lore), True)
            self.assertIs(is_lore(thing=lore), True)

    def test_what_does_not_rise(self):
        for thing in [(WORDS[::-1], VERBS), (WORDS, VERBS[::-1]), (WORDS[1:] + WORDS[:1], ()), ((), VERBS[1:] + VERBS[:1]),
                      (WORDS + WORDS[:1], ()), (WORDS[:2] + WORDS[3:] + WORDS[2:3], VERBS)]:
            self.assertIs(is_lore(thing), False, thing)

    def test_like_full_names(self):
        for thing in [(WORDS[:1] + WORDS, VERBS), (WORDS, VERBS + VERBS[-1:]),
                      ((("l.a", ()), ("l.a", (0,))), ()), ((("l.a", ()), ("l.a", ())), ()),
                      ((), (("l.a", (), "deep"), ("l.a", (), "wide"))), ((), (("l.a", (), "deep"), ("l.a", (0,), "deep"))),
                      ((("l.a", ()),), (("l.a", (), "deep"),)), (WORDS, (("l.nil", (0,), "deep"),)),
                      (WORDS, VERBS[:2] + (("m.s", (), "wide"),))]:
            self.assertIs(is_lore(thing), False, thing)

    def test_lists_and_other_forms(self):
        for thing in [[WORDS, VERBS], (list(WORDS), VERBS), (WORDS, list(VERBS)), (WORDS,), (WORDS, VERBS, ()), (VERBS, WORDS),
                      (tuple(list(word) for word in WORDS), VERBS), ((("l.a", [0]),), ()), (WORDS + (None,), VERBS),
                      (WORDS, VERBS + WORDS[:1]), ((), (("l.a", [], "deep"),)), ((), None), (None, ()), (("l.a", ()), ())]:
            self.assertIs(is_lore(thing), False, thing)

    def test_one_wrong_word_or_verb_at_any_place(self):
        for at in range(4):
            for order in NO_ORDERS:
                word = (WORDS[at][0], order)
                self.assertIs(is_lore((WORDS[:at] + (word,) + WORDS[at + 1:], VERBS)), False)
                verb = (VERBS[at][0], order, "deep")
                self.assertIs(is_lore((WORDS, VERBS[:at] + (verb,) + VERBS[at + 1:])), False)

    def test_things_of_any_kind(self):
        for thing in things():
            for made in [thing, (thing, VERBS), (WORDS, thing), (WORDS + (thing,), VERBS), (WORDS, (thing,)), (thing, thing)]:
                if type(thing) is not tuple or thing != ():
                    self.assertIs(is_lore(made), False)

    def test_just_as_sorted_and_unlike(self):
        dice = chance(61)
        found = [0, 0]
        for _ in range(2000):
            words = tuple((f"l.{name}", ()) for name in dice.choices("abcdefghijk", k=dice.randrange(4)))
            verbs = tuple((f"l.{name}", (), "deep") for name in dice.choices("abcdefghijk", k=dice.randrange(4)))
            names = [row[0] for row in words + verbs]
            right = list(words) == sorted(words) and list(verbs) == sorted(verbs) and len(names) == len(set(names))
            self.assertIs(is_lore((words, verbs)), right)
            found[right] += 1
        self.assertGreater(min(found), 300)

    def test_what_is_handed_in_stays_as_it_was(self):
        thing = (list(WORDS), [list(verb) for verb in VERBS])
        is_lore(thing)
        self.assertEqual(thing, (list(WORDS), [list(verb) for verb in VERBS]))


class Heads(unittest.TestCase):
    def test_heads_of_a_lore(self):
        for text in ["l.len(x)", "l.now", "l.len(l.nil)", "l.len(l.cons(x, x))", "m.add(m.s(x), m.s(m.s(y)))",
                     "m.tr(m.tri(x, l.nil, z), l.cons(m.s(l.nil), l.nil), q)"]:
            self.assertIs(is_of(LORE, read(text)), True, text)
            self.assertIs(is_of(lore=LORE, head=read(text)), True, text)

    def test_names_of_words_of_verbs_and_of_none(self):
        for text in ["l.cons(x, y)", "l.nil", "m.s(x)", "l.none(x)", "k.len(x)", "l.len(l.now)", "l.len(l.len(x))",
                     "l.len(l.none)", "l.len(m.nil)", "m.add(x, l.cons(m.s(l.now), x))", "m.add(l.none, x)",
                     "m.tr(x, y, m.s(k.s(x)))"]:
            self.assertIs(is_of(LORE, read(text)), False, text)

    def test_a_part_more_or_fewer(self):
        for text in ["l.len", "l.len(x, y)", "l.now(x)", "m.add(x)", "m.add(x, y, z)", "m.tr(x, y)", "l.len(l.nil(x))",
                     "l.len(m.s)", "l.len(m.s(x, y))", "l.len(l.cons(x))", "l.len(l.cons(x, y, z))", "l.len(m.tri(x, y))",
                     "m.add(x, m.s(l.cons(l.nil, m.s)))"]:
            self.assertIs(is_of(LORE, read(text)), False, text)

    def test_lore_that_lacks_them(self):
        self.assertIs(is_of(((), ()), ("l.now",)), False)
        self.assertIs(is_of((WORDS, ()), ("l.nil",)), False)
        self.assertIs(is_of(((), VERBS), ("l.len", "x")), True)
        self.assertIs(is_of(((), VERBS), ("l.len", ("l.nil",))), False)

    def test_a_hole_or_another_thing_is_of_no_lore(self):
        for thing in ["x", "l.now"] + things():
            self.assertIs(is_of(LORE, thing), False)
            self.assertIs(is_of(LORE, ("l.len", ("m.s", thing))), type(thing) is str and thing == "x")


if __name__ == "__main__":
    unittest.main()
