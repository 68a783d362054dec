import unittest

from aheadofholes.heads import is_instance, match
from aheadofholes.meeting import meet
from aheadofholes.nevers import never
from aheadofholes.trees import holes_in, is_form, is_tree, names_in, put_for, renamed
from tests import reference
from tests.pairs import doubling, doubling_clash, hard_pairs, holes_alone, open_chain, ring, some_pairs, wide
from tests.reference import read
from tests.samples import deep, forms_up_to

MEETINGS = [
    ("l.v", "l.v", "l.v"),
    ("l.v(x)", "l.v(y)", "l.v(a)"),
    ("l.v(q, r)", "l.v(r, q)", "l.v(a, b)"),
    ("l.v(x, y)", "l.v(x, x)", "l.v(a, a)"),
    ("l.v(x, l.b)", "l.v(l.a, x)", "l.v(l.a, l.b)"),
    ("l.v(x)", "l.v(l.s(x))", "l.v(l.s(a))"),
    ("l.v(x, y)", "l.v(l.s(y), l.s(x))", "l.v(l.s(a), l.s(b))"),
    ("l.v(x, x)", "l.v(y, l.s(z))", "l.v(l.s(a), l.s(a))"),
    ("l.v(x, x, y)", "l.v(l.s(y), l.s(l.a), z)", "l.v(l.s(l.a), l.s(l.a), a)"),
    ("l.v(z, l.p(y, x), z)", "l.v(l.s(c), l.p(b, c), a)", "l.v(l.s(a), l.p(b, a), l.s(a))"),
    ("l.v(x, x)", "l.v(l.p(y, l.a), l.p(l.b, z))", "l.v(l.p(l.b, l.a), l.p(l.b, l.a))"),
]

NO_MEETINGS = [
    ("l.v", "l.w"), ("l.v", "m.v"), ("l.v(x)", "l.v"), ("l.v(x)", "l.v(x, y)"), ("l.v(l.a)", "l.v(l.b)"),
    ("l.v(l.s(x))", "l.v(l.s)"), ("l.v(x, x)", "l.v(l.a, l.b)"), ("l.v(x, x)", "l.v(y, l.s(y))"),
    ("l.v(x, l.s(x))", "l.v(y, y)"), ("l.v(x, x, y)", "l.w(y, z, l.a)"),
    ("l.v(x, y, l.p(x, y))", "l.v(l.s(q), l.s(r), l.p(r, q))"), ("l.v(x, l.s(x))", "l.v(l.s(y), y)"),
    ("l.v(x, x, l.s(y))", "l.v(y, l.p(z, y), z)"), ("l.v(x, l.p(x, l.a))", "l.v(l.p(l.b, y), l.p(l.p(y, z), y))"),
]


class Meeting(unittest.TestCase):
    def test_what_both_come_to(self):
        for one, other, both in MEETINGS:
            self.assertEqual(meet(read(one), read(other)), read(both), (one, other))
            self.assertEqual(meet(read(other), read(one)), read(both), (other, one))
            self.assertEqual(meet(one=read(one), other=read(other)), read(both), (one, other))

    def test_heads_that_never_meet(self):
        for one, other in NO_MEETINGS:
            self.assertIsNone(meet(read(one), read(other)), (one, other))
            self.assertIsNone(meet(read(other), read(one)), (other, one))

    def test_holes_called_alike_are_unlike(self):
        self.assertEqual(meet(read("l.v(x)"), read("l.v(l.s(x))")), read("l.v(l.s(a))"))
        self.assertEqual(meet(read("l.v(x, l.a)"), read("l.v(l.b, x)")), read("l.v(l.b, l.a)"))
        self.assertEqual(meet(read("l.v(x, y)"), read("l.v(y, x)")), read("l.v(a, b)"))
        self.assertEqual(meet(read("l.v(a, b)"), read("l.v(l.s(b), a)")), read("l.v(l.s(a), b)"))

    def test_a_head_and_itself(self):
        for one, other in some_pairs(41, 200):
            self.assertEqual(meet(one, one), renamed(one))
            self.assertEqual(meet(other, renamed(other)), renamed(other))

    def test_hard_pairs_as_told_plainly(self):
        found = [0, 0]
        for one, other in hard_pairs():
            both = meet(one, other)
            self.assertEqual(both, reference.meet(one, other), (one, other))
            self.assertEqual(both, meet(other, one), (one, other))
            found[both is None] += 1
        self.assertGreater(min(found), 200)

    def test_what_is_told_is_an_instance_of_both(self):
        for one, other in hard_pairs():
            both = meet(one, other)
            if both is not None:
                self.assertTrue(is_tree(both))
                self.assertEqual(renamed(both), both)
                self.assertTrue(is_instance(both, one) and is_instance(both, other))

    def test_just_the_forms_that_both_match(self):
        names = ["l.a", "l.b", "m.s", "m.p"]
        forms = forms_up_to(3, names)
        met = 0
        for one, other in some_pairs(42, 250, 3, names, ("x", "y")):
            both = meet(one, other)
            for form in forms:
                wanted = match(one, form) is not None and match(other, form) is not None
                told = both is not None and match(both, form) is not None
                self.assertEqual(told, wanted, (one, other, form))
                met += wanted
        self.assertGreater(met, 50)

    def test_a_hole_within_itself(self):
        for many in [1, 2, 3, 7, 14, 40]:
            self.assertIsNone(meet(*ring(many)))
        self.assertIsNone(meet(read("l.v(x, x)"), read("l.v(y, l.s(y))")))
        self.assertIsNone(meet(read("l.v(x, x)"), read("l.v(l.p(y, z), z)")))

    def test_a_ring_of_holes_alone_meets(self):
        for many in [1, 2, 7, 30]:
            both = meet(*holes_alone(many))
            self.assertEqual(holes_in(both), ("a",))

    def test_holes_that_double(self):
        for many in range(1, 9):
            both = meet(*doubling(many))
            self.assertEqual(both, reference.meet(*doubling(many)))
        self.assertGreater(len(names_in(both)), 1000)
        self.assertLess(len(names_in(both)), 2000)
        for many in [2, 12, 60, 200]:
            self.assertIsNone(meet(*doubling_clash(many)))

    def test_chains_from_one_to_the_other(self):
        for many in [1, 2, 7, 14]:
            both = meet(*open_chain(many))
            self.assertTrue(is_form(both))
            self.assertEqual(both, reference.meet(*open_chain(many)))

    def test_more_than_a_hundred_holes(self):
        one, other = wide(50, 121), wide(51, 121)
        both = meet(one, other)
        self.assertEqual(both, reference.meet(one, other))
        plain = put_for(one, ())
        for number, hole in enumerate(holes_in(one)):
            plain = put_for(plain, ((hole, "own" + reference.name_of(number)),))
        self.assertEqual(meet(plain, ("l.w", "x", "y")), renamed(one))
        apart = self.wide_apart()
        self.assertGreater(len(holes_in(meet(apart, apart))), 100)
        self.assertEqual(meet(apart, apart), renamed(apart))

    def wide_apart(self):
        names = [reference.name_of(200 - number) for number in range(120)]
        layer = [("l.w", *names[at:at + 3]) for at in range(0, 120, 3)]
        while len(layer) > 1:
            layer = [("l.w", *layer[at:at + 3]) for at in range(0, len(layer), 3)]
        return layer[0]

    def test_nested_two_hundred_deep(self):
        one, other = ("l.v", deep(tuple, 198, "x"), "x"), ("l.v", "y", ("l.s", "y"))
        self.assertIsNone(meet(one, other))
        both = meet(one, ("l.v", "y", ("l.a",)))
        self.assertEqual(both, ("l.v", deep(tuple, 198, ("l.a",)), ("l.a",)))
        self.assertEqual(meet(both, one), both)
        self.assertEqual(meet(("l.v", "x"), ("l.v", deep(tuple, 600, "x")))[0], "l.v")

    def test_meet_and_never_agree(self):
        for one, other in hard_pairs():
            self.assertEqual(meet(one, other) is None, never(one, other) is not None)

    def test_nothing_is_changed_and_the_same_is_told_again(self):
        one, other = ring(3)
        told = meet(one, other)
        self.assertEqual(meet(one, other), told)
        self.assertEqual((one, other), ring(3))


if __name__ == "__main__":
    unittest.main()
