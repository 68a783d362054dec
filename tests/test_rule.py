import unittest

from aheadofholes import errors
from aheadofholes.errors import HoleError
from aheadofholes.houses import answers
from aheadofholes.rule import fate, is_book, let_by
from aheadofholes.sights import sight
from tests import plainly
from tests.books import BOOK, K_ONE, L_ONE, L_TWO, M_ONE, N_ONE, edition, rows, some_book, some_edition, with_field
from tests.books import with_rows
from tests.papers import with_one_otherwise
from tests.plainly import caught
from tests.reference import read
from tests.samples import chance, things
from tests.test_sights import chain_of_gifts

# l 1 tells what is looked at deep, wide and turned about; w 2 is the edition whose rows are asked for.
LORE = edition("l", 1, "", "cons 1 0, nil, s 0, tri 2 0 1", "dp 0 1 deep, dpb 1 0 deep, wd 0 1 wide, wdb 1 0 wide")
AHEAD = edition("w", 1, "l 1", "old", "was 0 deep", "", "l.dp(w.old, x) = x; w.was(x) = x")
ASKED = edition("w", 2, "", "new, put 1 0", "is 0 deep, see 0 1 wide")
OUT = (LORE, AHEAD)


def fates(text, made=ASKED, book=OUT):
    made = with_rows(made, "; ".join(f"{head} = {head}" for head in text.split(";")))
    return [fate(book, made, number) for number in range(len(made[6]))]


class Fates(unittest.TestCase):
    def test_own_at_step_0_by_a_verb_that_it_tells(self):
        self.assertEqual(fates("w.is(x); w.is(l.nil); w.is(w.new); w.see(x, y)"), [("own", 0)] * 4)

    def test_own_at_a_later_step(self):
        self.assertEqual(fates("l.dp(w.new, x)"), [("own", 1)])
        self.assertEqual(fates("l.dp(l.nil, w.new)"), [("own", 2)])
        self.assertEqual(fates("l.dp(l.s(l.s(w.put(x, y))), z)"), [("own", 3)])
        self.assertEqual(fates("w.was(l.s(w.new))"), [("own", 2)])
        self.assertEqual(fates("l.wd(l.s(w.new), w.new)"), [("own", 2)])

    def test_the_first_such_step_is_told(self):
        self.assertEqual(fates("l.dp(w.new, w.new); l.dp(w.put(w.new, w.new), w.new); w.is(w.new)"),
                         [("own", 1), ("own", 1), ("own", 0)])

    def test_deep_and_wide(self):
        heads = "(l.s(w.new), w.new); {0}(l.s(l.s(w.new)), l.s(l.nil)); {0}(l.s(l.nil), l.s(w.new))"
        self.assertEqual(fates("l.dp" + heads.format("l.dp")), [("own", 2), ("own", 3), ("own", 4)])
        self.assertEqual(fates("l.wd" + heads.format("l.wd")), [("own", 2), ("own", 5), ("own", 4)])

    def test_by_the_orders_told(self):
        self.assertEqual(fates("l.dp(x, w.new); l.dpb(x, w.new); l.dp(w.new, x); l.dpb(w.new, x)"),
                         [("holed", 1), ("own", 1), ("own", 1), ("holed", 1)])
        self.assertEqual(fates("l.dp(l.cons(x, w.new), l.nil); l.dp(l.cons(w.new, x), l.nil)"), [("own", 2), ("holed", 2)])
        self.assertEqual(fates("l.dp(l.tri(x, y, w.new), z); l.dp(l.tri(l.nil, w.new, x), z); l.dp(l.tri(w.new, x, l.nil), z)"),
                         [("own", 2), ("holed", 2), ("own", 3)])
        self.assertEqual(fates("l.wdb(l.s(x), l.s(w.new)); l.wdb(l.s(w.new), l.s(x))"), [("own", 3), ("holed", 3)])
        self.assertEqual(fates("w.see(x, y); l.wd(w.put(x, y), z)"), [("own", 0), ("own", 1)])

    def test_holed_at_each_step(self):
        self.assertEqual(fates("l.dp(x, l.nil); l.dp(l.nil, x); l.dp(l.s(l.nil), x); l.dp(l.s(l.s(l.s(x))), y)"),
                         [("holed", 1), ("holed", 2), ("holed", 3), ("holed", 4)])
        self.assertEqual(fates("l.wd(l.s(x), y); l.wd(l.s(x), l.s(y)); l.wd(l.s(l.nil), l.s(y)); l.wd(l.s(l.s(x)), l.s(l.nil))"),
                         [("holed", 2), ("holed", 3), ("holed", 4), ("holed", 5)])
        self.assertEqual(fates("l.dp(x, x); l.dpb(l.s(x), x)"), [("holed", 1), ("holed", 1)])

    def test_a_hole_ahead_of_an_own_word_is_holed_and_behind_it_own(self):
        self.assertEqual(fates("l.dp(x, w.new); l.dp(w.new, x); l.dp(l.cons(w.new, x), w.new); l.dp(l.cons(x, w.new), y)"),
                         [("holed", 1), ("own", 1), ("holed", 2), ("own", 2)])
        self.assertEqual(fates("l.wd(l.s(w.new), x); l.dp(l.s(w.new), x)"), [("holed", 2), ("own", 2)])

    def test_what_its_line_told_ahead_is_not_own(self):
        self.assertEqual(fates("l.dp(w.old, x); w.was(x); w.was(w.old)"), [("holed", 2), ("holed", 1), ("answered", ("w", 1), 1)])
        self.assertEqual(fates("l.dp(w.old, x); w.was(x)", AHEAD, OUT[:1]), [("own", 1), ("own", 0)])
        self.assertEqual(fates("l.dp(w.old, w.new); w.was(w.new)"), [("own", 2), ("own", 1)])

    def test_of_an_edition_that_is_out(self):
        for number, made in enumerate(BOOK):
            for at in range(len(made[6])):
                self.assertEqual(fate(BOOK, made, at), fate(BOOK[:number], made, at))
                self.assertIn(fate(book=BOOK, edition=made, number=at), [("own", 0), ("own", 1), ("own", 2)])

    def test_answered_with_the_very_row(self):
        first = edition("l", 1, "", "nil, s 0", "f 0 deep", "", "l.f(l.s(l.s(x))) = x; l.f(l.s(x)) = x; l.f(l.s(l.nil)) = l.nil")
        second = edition("l", 2, "", "t", "", "", "l.f(l.t) = l.nil; l.f(l.s(l.t)) = l.t; l.f(l.s(l.t)) = l.nil")
        third = edition("l", 3)
        book = (first, second)
        self.assertTrue(is_book(book))
        self.assertEqual(fates("l.f(l.s(l.nil)); l.f(l.s(l.s(l.t))); l.f(l.s(l.t)); l.f(l.t); l.f(l.nil)", third, book),
                         [("answered", ("l", 1), 1), ("answered", ("l", 1), 0), ("answered", ("l", 2), 1),
                          ("answered", ("l", 2), 0), ("home",)])
        self.assertEqual(fates("l.f(l.s(l.nil)); l.f(l.nil)", edition("m", 1, "l 1"), book),
                         [("answered", ("l", 1), 1), ("stray",)])

    def test_rows_that_it_does_not_see_do_not_answer(self):
        book = (edition("l", 1, "", "nil", "f 0 deep"), edition("l", 2, "", "", "", "", "l.f(l.nil) = l.nil"))
        self.assertTrue(is_book(book))
        self.assertEqual(fates("l.f(l.nil)", edition("m", 1, "l 1"), book), [("stray",)])
        self.assertEqual(fates("l.f(l.nil)", edition("m", 1, "l 2"), book), [("answered", ("l", 2), 0)])

    def test_rows_of_its_own_do_not_answer(self):
        book = (edition("l", 1, "", "nil", "f 0 deep"),)
        self.assertEqual(fates("l.f(l.nil); l.f(l.nil)", edition("l", 2), book), [("home",), ("home",)])

    def test_stray_and_home(self):
        book = (edition("l", 1, "", "nil, s 0", "f 0 deep, now wide"),)
        self.assertEqual(fates("l.f(l.nil); l.now", edition("l", 2), book), [("home",), ("home",)])
        self.assertEqual(fates("l.f(l.nil); l.now", edition("m", 1, "l 1"), book), [("stray",), ("stray",)])
        self.assertEqual(fates("l.f(x)", edition("m", 1, "l 1"), book), [("holed", 1)])

    def test_a_verb_that_was_given(self):
        book = chain_of_gifts()
        self.assertEqual(book[1][5], (("l.go", "m"),))
        for made, word in [
            (book[1], "home"), (edition("l", 3), "stray"), (edition("m", 1, "l 2"), "home"), (book[2], "home"),
            (edition("m", 2), "stray"), (book[3], "home"), (edition("k", 2), "stray"), (book[4], "home"),
            (edition("l", 4), "stray"), (edition("m", 2, "l 3"), "home"), (edition("z", 1, "l 1"), "stray"),
            (edition("m", 1, "l 1"), "stray"), (edition("k", 1, "l 2"), "stray"),
        ]:
            self.assertEqual(fates("l.go(l.nil)", made, book), [(word,)], made)

    def test_which_comes_first(self):
        book = (edition("l", 1, "", "nil, s 0", "f 0 1 deep"), edition("l", 2, "", "t", "", "l.f m", "l.f(l.t, x) = x"))
        made = edition("k", 1, "l 2", "kay")
        self.assertEqual(fates("l.f(l.t, k.kay); l.f(l.t, x); l.f(l.t, l.nil); l.f(l.nil, l.nil)", made, book),
                         [("own", 2), ("holed", 2), ("answered", ("l", 2), 0), ("stray",)])

    def test_many_editions_as_told_plainly(self):
        dice = chance(111)
        found = {}
        for _ in range(150):
            book = some_book(dice, 8)
            made = some_edition(dice, book, 8)
            for at in range(len(made[6])):
                told = fate(book, made, at)
                self.assertEqual(told, plainly.fate(book, made, at))
                found[told[0]] = found.get(told[0], 0) + 1
        self.assertEqual(sorted(found), ["answered", "holed", "home", "own", "stray"])
        self.assertGreater(min(found.values()), 40)


class Refusals(unittest.TestCase):
    def refused(self, book, made, name, *values):
        """let_by refuses it so, by a class of its own, straight under HoleError."""
        with self.assertRaises(HoleError, msg=made) as raised:
            let_by(book, made)
        refusal = raised.exception
        self.assertEqual((type(refusal).__name__, *vars(refusal).values()), (name, *values), made)
        self.assertIs(type(refusal), getattr(errors, name))
        self.assertIsInstance(refusal, ValueError)

    def test_what_is_let_by(self):
        for number, made in enumerate(BOOK):
            self.assertIsNone(let_by(BOOK[:number], made))
        self.assertIsNone(let_by(book=(), edition=K_ONE))
        self.assertIsNone(let_by((), edition("a", 1)))

    def test_no_edition(self):
        for thing in things() + [list(L_ONE), L_ONE[:6], with_field(L_ONE, 1, 0), with_field(L_ONE, 1, True)]:
            self.refused((), thing, "NoEdition")
            self.refused(BOOK, thing, "NoEdition")

    def test_no_edition_bent_at_any_place(self):
        for bent in with_one_otherwise(M_ONE):
            self.assertEqual(caught(let_by, BOOK[:2], bent), plainly.refusal(BOOK[:2], bent))

    def test_not_next(self):
        for number in [2, 3, 60, 10 ** 4000]:
            self.refused((), edition("l", number), "NotNext", number)
        for line, number in [("l", 1), ("l", 2), ("l", 4), ("k", 1), ("k", 3), ("z", 2), ("m", 2), ("n", 1)]:
            self.refused(BOOK, edition(line, number), "NotNext", number)
        self.refused(BOOK, L_ONE, "NotNext", 1)
        self.assertIsNone(let_by(BOOK, edition("l", 3)))
        self.assertIsNone(let_by(BOOK, edition("la", 1)))

    def test_not_out(self):
        for sees, key in [("a 1", ("a", 1)), ("k 1, k 2, z 1", ("k", 2)), ("l 1, l 3, m 4", ("l", 3)),
                          ("l 4", ("l", 4)), ("k 3, k 4", ("k", 3)), ("l 1, z 10000", ("z", 10000))]:
            self.refused(BOOK, edition("l", 3, sees), "NotOut", key)
        self.refused((), edition("l", 1, "l 1"), "NotOut", ("l", 1))
        self.assertIsNone(let_by(BOOK, edition("l", 3, "l 1, l 2, n 1")))

    def test_told(self):
        for words, verbs, name in [
            ("nil", "", "l.nil"), ("nil 0", "", "l.nil"), ("", "nil deep", "l.nil"), ("add", "", "l.add"),
            ("", "add 0 wide", "l.add"), ("new, s", "nil deep", "l.s"), ("new", "add deep, s wide", "l.add"),
            ("nil, s", "", "l.nil"), ("s", "add deep", "l.s"),
        ]:
            self.refused(BOOK, edition("l", 3, "", words, verbs), "Told", name)
        book = (edition("l", 1, "", "a"), edition("l", 2, "", "b"), edition("m", 1, "", "c"))
        for name in ["a", "b"]:
            self.refused(book, edition("l", 3, "", name), "Told", f"l.{name}")
        self.assertIsNone(let_by(book, edition("l", 3, "", "aa, bb, c")))

    def test_unheard_in_gives(self):
        for gives, name in [("l.none m", "l.none"), ("k.say m", "k.say"), ("l.add z, l.nil m", "l.nil"),
                            ("l.add z, m.pair z, z.z z", "m.pair"), ("a.a z, l.add z", "a.a")]:
            self.refused(BOOK, edition("o", 1, "l 1", "", "", gives), "Unheard", name)

    def test_unheard_in_a_head(self):
        made = edition("o", 1, "l 1", "oh 0 1", "do 0 deep")
        for head, name in [
            ("k.say(x)", "k.say"), ("l.nil", "l.nil"), ("l.none(x)", "l.none"), ("o.oh(x, y)", "o.oh"), ("z.z", "z.z"),
            ("l.add(x)", "l.add"), ("l.add(x, y, z)", "l.add"), ("l.add", "l.add"), ("o.do", "o.do"), ("o.do(x, y)", "o.do"),
            ("l.add(l.add(x, y), z)", "l.add"), ("l.add(x, o.do(x))", "o.do"), ("o.do(l.nil(x))", "l.nil"),
            ("o.do(l.s)", "l.s"), ("o.do(l.s(x, y))", "l.s"), ("o.do(o.oh(x))", "o.oh"), ("o.do(l.s(l.s(k.kay)))", "k.kay"),
            ("o.do(o.oh(m.pair(x, y), k.kay))", "m.pair"), ("o.do(o.oh(l.s(z.b), z.a))", "z.b"), ("k.kay(z.b)", "k.kay"),
            ("l.add(l.s(l.nil(z.a)), z.b)", "l.nil"), ("o.do(o.no)", "o.no"),
        ]:
            self.refused(BOOK, with_rows(made, f"{head} = l.nil"), "Unheard", name)
            self.refused(BOOK, with_rows(made, f"o.do(x) = x; {head} = z.z"), "Unheard", name)

    def test_unheard_in_an_answer(self):
        made = edition("o", 1, "l 1", "oh 0 1", "do 0 deep")
        for answer, name in [
            ("k.kay", "k.kay"), ("k.say(x)", "k.say"), ("l.none", "l.none"), ("l.add(x)", "l.add"), ("l.s", "l.s"),
            ("l.nil(x)", "l.nil"), ("l.add(l.s(x, x), z.z)", "l.s"), ("l.add(l.nil, l.s(k.kay))", "k.kay"), ("o.do", "o.do"),
            ("o.oh(m.pair(x, x), z.z)", "m.pair"), ("z.z(z.y)", "z.z"),
        ]:
            self.refused(BOOK, with_rows(made, f"o.do(x) = {answer}"), "Unheard", name)
            self.refused(BOOK, with_rows(made, f"o.do(x) = x; o.do(x) = {answer}; o.do(z.z) = x"), "Unheard", name)
        for answer in ["l.add(x, x)", "l.s(l.add(l.nil, o.do(o.oh(x, l.add(x, x)))))", "o.do(o.do(x))", "x", "l.nil"]:
            self.assertIsNone(let_by(BOOK, with_rows(made, f"o.do(x) = {answer}")), answer)

    def test_unheard_row_by_row_and_the_head_ahead_of_the_answer(self):
        made = edition("o", 1, "l 1", "oh 0 1", "do 0 deep")
        self.refused(BOOK, with_rows(made, "o.do(z.b) = z.a; o.do(z.c) = x"), "Unheard", "z.b")
        self.refused(BOOK, with_rows(made, "o.do(x) = z.b; o.do(z.a) = x"), "Unheard", "z.b")
        self.refused(BOOK, with_field(with_rows(made, "o.do(z.b) = z.a"), 5, (("z.c", "a"),)), "Unheard", "z.c")

    def test_a_name_of_an_edition_that_it_does_not_see(self):
        book = BOOK + (edition("l", 3, "", "late"),)
        self.refused(book, edition("o", 1, "l 2", "", "do 0 deep", "", "o.do(l.late) = l.nil"), "Unheard", "l.late")
        self.assertIsNone(let_by(book, edition("o", 1, "l 3", "", "do 0 deep", "", "o.do(l.late) = l.nil")))
        self.assertIsNone(let_by(book, edition("l", 4, "", "", "do 0 deep", "", "l.do(l.late) = l.nil")))

    def test_not_kept(self):
        book = chain_of_gifts()
        for many, made, name in [
            (4, edition("l", 3, "", "", "", "l.go m"), "l.go"), (8, edition("z", 1, "l 1", "", "", "l.stay z"), "l.stay"),
            (2, edition("m", 1, "l 1", "", "", "l.go z"), "l.go"), (8, edition("m", 2, "l 3", "", "", "l.go k, l.stay k"), "l.stay"),
            (8, edition("m", 2, "", "", "a deep", "l.go k, l.stay k, m.a z"), "l.go"), (8, edition("l", 4, "", "", "", "l.go l"), "l.go"),
            (8, edition("k", 2, "", "", "", "l.go k"), "l.go"), (8, edition("o", 2, "", "", "", "l.go o"), "l.go"),
        ]:
            self.refused(book[:many], made, "NotKept", name)
            self.assertEqual(plainly.refusal(book[:many], made), ("NotKept", name))
        self.assertIsNone(let_by(book[:2], edition("m", 1, "l 2", "", "", "l.go z")))
        self.assertIsNone(let_by(book, edition("l", 4, "", "", "", "l.stay m")))
        self.assertIsNone(let_by(book, edition("m", 2, "l 3", "", "a deep", "l.go k, m.a z")))
        self.assertIsNone(let_by((), edition("l", 1, "", "", "a deep, b deep", "l.a l, l.b m")))

    def test_loose(self):
        made = edition("o", 1, "l 1", "", "do 0 deep, du 0 1 deep")
        for text, number in [("o.do(x) = y", 0), ("o.do(l.nil) = x", 0), ("o.do(x) = x; o.du(x, y) = l.add(x, l.s(z))", 1),
                             ("o.do(x) = x; o.do(y) = x; o.do(z) = x", 1), ("o.do(x) = l.s(l.s(l.s(a)))", 0)]:
            self.refused(BOOK, with_rows(made, text), "Loose", number)
        self.assertIsNone(let_by(BOOK, with_rows(made, "o.du(x, y) = y; o.du(l.s(y), x) = l.add(y, x)")))

    def test_holed_answered_stray(self):
        self.assertIsNone(let_by(BOOK, with_rows(edition("m", 3), "m.mix(l.nil, l.nil) = l.nil")))
        for text, name, *values in [
            ("l.add(m.pair(x, y), z) = x", "Holed", 0, 2), ("m.mix(l.nil, x) = x", "Holed", 0, 1),
            ("m.mix(x, l.nil) = x", "Holed", 0, 2), ("l.add(l.s(l.nil), l.nil) = l.nil", "Answered", 0, ("l", 1)),
            ("l.add(m.pair(l.nil, l.nil), l.nil) = l.nil", "Answered", 0, ("m", 1)), ("k.say(l.nil) = l.nil", "Stray", 0),
            ("m.mix(l.nil, l.nil) = l.nil; k.say(l.nil) = l.nil; k.say(x) = x", "Stray", 1),
            ("m.mix(l.nil, l.nil) = l.nil; k.say(x) = x; k.say(l.nil) = l.nil", "Holed", 1, 1),
            ("m.mix(l.nil, l.nil) = l.nil; k.say(k.kay) = k.kay; k.say(x) = x", "Answered", 1, ("k", 1)),
        ]:
            self.refused(BOOK, with_rows(edition("m", 3), text), name, *values)

    def test_of_which_class_alone(self):
        for name in ["NoEdition", "NotNext", "NotOut", "Told", "Unheard", "NotKept", "Loose", "Holed", "Answered", "Stray"]:
            self.assertEqual(getattr(errors, name).__mro__[1:3], (HoleError, ValueError))

    def test_which_comes_first_where_several_are_due(self):
        book = (edition("l", 1, "", "nil, s 0", "go 0 deep, on 0 1 deep"), edition("l", 2, "", "", "", "l.go m"),
                edition("k", 1, "", "kay", "say 0 deep", "", "k.say(k.kay) = k.kay"))
        made = edition("l", 9, "k 1, k 2, z 1", "new, nil", "on deep, s deep", "l.go z, z.z z",
                       "l.on(z.a, x) = y; k.say(k.kay) = z.b; k.say(x) = x; k.say(l.nil) = x")
        ladder = [
            (0, "L", ("NoEdition",)), (0, "l", ("NotNext", 9)), (1, 3, ("NotOut", ("k", 2))),
            (2, (("k", 1), ("z", 1)), ("NotOut", ("z", 1))), (2, (("k", 1),), ("Told", "l.nil")),
            (3, (("l.new", ()),), ("Told", "l.on")), (4, (("l.s", (), "deep"),), ("Told", "l.s")),
            (4, (), ("Unheard", "z.z")), (5, (("l.go", "z"),), ("Unheard", "z.a")),
            (6, rows("l.on(l.nil, x) = y; k.say(k.kay) = z.b; k.say(x) = x; k.say(l.nil) = x"), ("Unheard", "z.b")),
            (6, rows("l.on(l.nil, x) = y; k.say(k.kay) = k.kay; k.say(x) = x; k.say(l.nil) = x"), ("NotKept", "l.go")),
            (5, (), ("Loose", 0)),
            (6, rows("l.on(l.nil, x) = x; k.say(k.kay) = k.kay; k.say(x) = x; k.say(l.nil) = x"), ("Loose", 3)),
            (6, rows("l.on(l.nil, x) = x; k.say(k.kay) = k.kay; k.say(x) = x; k.say(l.nil) = l.nil"), ("Holed", 0, 2)),
            (6, rows("l.on(l.nil, l.new) = l.nil; k.say(k.kay) = k.kay; k.say(x) = x; k.say(l.nil) = l.nil"),
             ("Answered", 1, ("k", 1))),
            (6, rows("l.on(l.nil, l.new) = l.nil; k.say(l.new) = k.kay; k.say(x) = x; k.say(l.nil) = l.nil"), ("Holed", 2, 1)),
            (6, rows("l.on(l.nil, l.new) = l.nil; k.say(l.new) = k.kay; k.say(l.nil) = l.nil"), ("Stray", 2)),
        ]
        for at, worth, wanted in ladder:
            made = with_field(made, at, worth)
            self.refused(book, made, *wanted)
            self.assertEqual(plainly.refusal(book, made), wanted)
        self.assertIsNone(let_by(book, with_rows(made, "l.on(l.nil, l.new) = l.nil; k.say(l.new) = k.kay")))

    def test_names_that_begin_alike(self):
        book = (edition("l", 1, "", "a, ab 0", "b 0 deep"), edition("la", 1, "", "b"), edition("a", 1, "", "l"))
        self.assertIsNone(let_by(book, edition("l", 2, "", "aa, abc", "ba deep, bb wide")))
        self.assertIsNone(let_by(book, edition("la", 2, "", "a, ab")))
        self.refused(book, edition("la", 2, "", "a, b"), "Told", "la.b")
        self.refused(book, edition("l", 2, "", "c", "", "", "l.b(la.b) = l.a"), "Unheard", "la.b")
        self.refused(book, edition("l", 2, "", "c", "", "", "l.b(l.abc) = l.a"), "Unheard", "l.abc")
        self.refused(book, edition("la", 3), "NotNext", 3)
        self.refused(book, edition("lab", 1, "l 1, la 2"), "NotOut", ("la", 2))
        self.refused(book, edition("la", 2, "l 1", "", "", "l.b la"), "NotKept", "l.b")

    def test_many_editions_as_told_plainly(self):
        dice = chance(112)
        found = {}
        for _ in range(800):
            book = some_book(dice, dice.randrange(7), 2)
            made = bent_a_little(dice, some_edition(dice, book, 4))
            told = caught(let_by, book, made)
            self.assertEqual(told, plainly.refusal(book, made), (book, made))
            name = told and told[0]
            found[name] = found.get(name, 0) + 1
        self.assertEqual(len(found), 11, found)
        self.assertGreater(min(found.values()), 2, found)

    def test_what_is_handed_in_stays_as_it_was(self):
        book, made = list(BOOK), list(L_TWO)
        for _ in range(2):
            self.refused(book, made, "NoEdition")
            self.refused(tuple(book), edition("l", 9), "NotNext", 9)
        self.assertEqual((book, made), (list(BOOK), list(L_TWO)))


def bent_a_little(dice, made):
    """The edition with something otherwise that may be due to be refused, or as it was."""
    line, number, sees, words, verbs, gives, told = made
    other = dice.choice(["l.ga", "m.gb", f"{line}.aa", f"{line}.ga", f"{line}.ha"])
    ways = [
        made, made, made,
        list(made),
        with_field(made, 1, number + dice.choice([-1, 1])),
        with_field(made, 2, tuple(sorted({*sees, (dice.choice("klmz"), dice.randrange(1, 4))}))),
        with_field(made, 3, tuple(sorted({**dict(words), f"{line}.{dice.choice('abc')}{dice.choice('ab')}": ()}.items()))),
        with_field(made, 3, tuple(sorted({**dict(words), f"{line}.{dice.choice('abcdefgh')}b": ()}.items()))),
        with_field(made, 5, tuple(sorted({**dict(gives), other: "z"}.items()))),
        with_field(made, 5, tuple(sorted({**dict(gives), **{verb[0]: "k" for verb in verbs}}.items()))),
        with_field(made, 5, tuple(sorted({row[0][0]: "k" for row in told}.items()))),
        with_field(made, 6, told + ((("l.aa", "x"), ("l.ab",)),)),
        with_field(made, 6, tuple((head, dice.choice([answer, answer, "w"])) for head, answer in told)),
        with_field(made, 6, tuple((head + ("x",) * (dice.random() < 0.2 and len(head) < 4), answer) for head, answer in told)),
    ]
    return dice.choice(ways)


class Books(unittest.TestCase):
    def test_books(self):
        for many in range(len(BOOK) + 1):
            self.assertIs(is_book(BOOK[:many]), True)
        self.assertIs(is_book(thing=()), True)

    def test_any_order_that_has_ahead_of_each_all_that_it_sees(self):
        for order, right in [
            ((K_ONE, L_ONE, L_TWO, N_ONE, M_ONE), True), ((L_ONE, L_TWO, K_ONE, N_ONE, M_ONE), True),
            ((L_ONE, M_ONE, K_ONE), True), ((M_ONE, L_ONE), False), ((L_TWO, L_ONE), False), ((L_ONE, L_TWO, N_ONE, K_ONE), False),
            ((K_ONE, L_ONE, N_ONE, L_TWO), False),
        ]:
            self.assertIs(is_book(order), right)

    def test_one_left_out_or_twice(self):
        for number in range(len(BOOK)):
            self.assertIs(is_book(BOOK[:number] + BOOK[number + 1:]), number >= 4)
            self.assertIs(is_book(BOOK[:number + 1] + BOOK[number:]), False)
            self.assertIs(is_book(BOOK + BOOK[number:number + 1]), False)

    def test_two_exchanged(self):
        dice = chance(121)
        found = [0, 0]
        for _ in range(40):
            book = list(some_book(dice, 6, 2))
            low, high = sorted(dice.sample(range(6), 2))
            book[low], book[high] = book[high], book[low]
            told = is_book(tuple(book))
            self.assertIs(told, plainly.is_book(tuple(book)))
            found[told] += 1
        self.assertGreater(min(found), 3)

    def test_all_orders_of_books_made(self):
        dice = chance(122)
        for _ in range(40):
            book = some_book(dice, 7, 3)
            self.assertIs(is_book(book), True)
            turned = tuple(dice.sample(book, 7))
            ahead = all(set(sight(book, made)) <= set(turned[:at]) for at, made in enumerate(turned))
            self.assertIs(is_book(turned), ahead)

    def test_an_edition_bent_at_any_place(self):
        book = (L_ONE, edition("l", 2, "", "t", "", "l.add m", "l.add(l.s(l.t), x) = x"))
        self.assertIs(is_book(book), True)
        found = [0, 0]
        for number, made in enumerate(book):
            for bent in with_one_otherwise(made):
                changed = book[:number] + (bent,) + book[number + 1:]
                told = is_book(changed)
                self.assertIs(told, plainly.is_book(changed))
                found[told] += 1
        self.assertGreater(min(found), 30)

    def test_rows_that_are_not_let_by(self):
        for text in ["l.add(x, l.nil) = x", "l.add(l.nil, l.nil) = l.nil", "k.say(x) = x", "l.add(l.s(z), l.nil) = q"]:
            self.assertIs(is_book(BOOK + (with_rows(edition("l", 3), text),)), False)

    def test_things_of_any_kind(self):
        self.assertIs(is_book(L_ONE), False)
        for thing in things() + [list(BOOK), [], None, {}, set(), BOOK + (None,), (BOOK,), iter(BOOK)]:
            if type(thing) is not tuple or thing != ():
                self.assertIs(is_book(thing), False)
            for made in [(thing,), (L_ONE, thing), (thing, L_ONE), (L_ONE, thing, L_TWO)]:
                self.assertIs(is_book(made), False)


class Answering(unittest.TestCase):
    def test_who_is_told_in_fate_answers_in_the_sight(self):
        dice = chance(131)
        met = 0
        for _ in range(100):
            book = some_book(dice, 8)
            made = some_edition(dice, book, 8)
            for at, (head, _) in enumerate(made[6]):
                told = fate(book, made, at)
                if told[0] == "answered":
                    met += 1
                    self.assertEqual(told[1:], answers(sight(book, made), head))
        self.assertGreater(met, 50)

    def test_a_form_is_read_as_it_is_written(self):
        self.assertEqual(rows("l.a(x) = l.b")[0], (read("l.a(x)"), ("l.b",)))


if __name__ == "__main__":
    unittest.main()
