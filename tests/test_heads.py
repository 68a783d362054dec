import unittest

from aheadofholes.heads import is_instance, match
from aheadofholes.trees import holes_in, put_for, renamed
from tests.reference import read
from tests.samples import chance, forms_up_to, some_form, some_head, some_tree

MATCHES = [
    ("l.a", "l.a", []),
    ("l.a(x)", "l.a(l.b)", [("x", "l.b")]),
    ("l.a(y, x)", "l.a(l.b, l.c)", [("y", "l.b"), ("x", "l.c")]),
    ("l.a(x, x)", "l.a(l.b(l.c), l.b(l.c))", [("x", "l.b(l.c)")]),
    ("l.a(l.b(z, y), z, x)", "l.a(l.b(l.c, l.d), l.c, l.e)", [("z", "l.c"), ("y", "l.d"), ("x", "l.e")]),
    ("l.a(x, l.b(x))", "l.a(l.b(l.c), l.b(l.b(l.c)))", [("x", "l.b(l.c)")]),
]

NO_MATCHES = [
    ("l.a", "l.b"), ("l.a", "m.a"), ("l.a", "l.a(l.b)"), ("l.a(x)", "l.a"), ("l.a(x)", "l.a(l.b, l.c)"),
    ("l.a(x, y)", "l.a(l.b)"), ("l.a(x, x)", "l.a(l.b, l.c)"), ("l.a(x, x)", "l.a(l.b(l.c), l.b(l.d))"),
    ("l.a(x, l.b(x))", "l.a(l.b, l.b(l.c))"), ("l.a(l.b(x))", "l.a(l.c(l.d))"), ("l.a(l.b(x))", "l.a(l.b)"),
    ("l.a(x, l.b)", "l.a(l.b, l.c)"), ("l.a(x, y, x)", "l.a(l.b, l.b, l.c)"),
]


class Matching(unittest.TestCase):
    def test_what_matches(self):
        for head, form, pairs in MATCHES:
            told = tuple((hole, read(tree)) for hole, tree in pairs)
            self.assertEqual(match(read(head), read(form)), told, head)
            self.assertEqual(match(head=read(head), form=read(form)), told, head)

    def test_what_does_not(self):
        for head, form in NO_MATCHES:
            self.assertIsNone(match(read(head), read(form)), head)

    def test_trees_put_for_holes_are_found_again(self):
        dice = chance(21)
        for _ in range(1000):
            head = some_head(dice, 4)
            by = tuple((hole, some_form(dice, 3)) for hole in holes_in(head))
            self.assertEqual(match(head, put_for(head, by)), by)

    def test_just_where_trees_make_the_head_the_form(self):
        dice = chance(22)
        names = ["l.a", "l.b", "m.s", "m.p"]
        forms = forms_up_to(3, names)
        found = 0
        for _ in range(40):
            head = some_head(dice, 3, ["x", "y"], names)
            for form in forms:
                put = match(head, form)
                if put is None:
                    self.assertNotIn(form, self.forms_of(head, form))
                else:
                    found += 1
                    self.assertEqual(put_for(head, put), form)
                    self.assertEqual(tuple(hole for hole, _ in put), holes_in(head))
        self.assertGreater(found, 100)

    def forms_of(self, head, form):
        """What becomes of a head by all trees that stand in a form."""
        left, trees = [form], []
        for tree in left:
            trees.append(tree)
            left.extend(tree[1:])
        found = [head]
        for hole in holes_in(head):
            found = [put_for(tree, ((hole, put),)) for tree in found for put in trees]
        return found

    def test_nothing_is_changed(self):
        head, form = read("l.a(x, x)"), read("l.a(l.b, l.b)")
        self.assertEqual(match(head, form), match(head, form))
        self.assertEqual((head, form), (read("l.a(x, x)"), read("l.a(l.b, l.b)")))


class Instances(unittest.TestCase):
    def test_instances(self):
        for one, other in [
            ("l.a", "l.a"), ("l.a(x)", "l.a(x)"), ("l.a(x)", "l.a(y)"), ("l.a(l.b)", "l.a(x)"), ("l.a(x, x)", "l.a(x, y)"),
            ("l.a(x, y)", "l.a(y, x)"), ("l.a(l.b(x), y)", "l.a(x, y)"), ("l.a(l.b(x), l.b(x))", "l.a(x, x)"),
            ("l.a(x, l.b(x))", "l.a(x, l.b(y))"), ("l.a(l.b(x), x)", "l.a(x, y)"), ("l.a(y, y)", "l.a(x, x)"),
            ("l.a(l.b(y), l.b(l.b(y)))", "l.a(y, l.b(y))"),
        ]:
            self.assertIs(is_instance(read(one), read(other)), True, (one, other))
            self.assertIs(is_instance(one=read(one), other=read(other)), True, (one, other))

    def test_no_instances(self):
        for one, other in [
            ("l.a", "l.b"), ("l.a(x)", "l.a(l.b)"), ("l.a(x, y)", "l.a(x, x)"), ("l.a(x, y)", "l.a(y, y)"),
            ("l.a(x, l.b(x))", "l.a(x, x)"), ("l.a(x)", "l.a(l.b(x))"), ("l.a(x)", "l.a"), ("l.a", "l.a(x)"),
            ("l.a(x, y)", "l.a(x)"), ("l.a(x, l.b(y))", "l.a(x, l.b(x))"), ("l.a(l.b(x), l.b(y))", "l.a(x, x)"),
            ("l.a(x, y, x)", "l.a(x, x, y)"), ("l.a(x, x)", "l.a(x, l.b(y))"),
        ]:
            self.assertIs(is_instance(read(one), read(other)), False, (one, other))

    def test_holes_of_one_are_words_of_their_own(self):
        dice = chance(23)
        found = [0, 0]
        for _ in range(3000):
            one, other = some_head(dice, 3), some_head(dice, 3)
            if dice.random() < 0.5:
                one = put_for(other, tuple((hole, some_tree(dice, 2)) for hole in holes_in(other)))
            words = put_for(one, tuple((hole, ("own." + hole,)) for hole in holes_in(one)))
            told = is_instance(one, other)
            self.assertIs(told, match(other, words) is not None)
            self.assertIs(told, is_instance(renamed(one), renamed(other)))
            found[told] += 1
        self.assertGreater(min(found), 500)

    def test_whatever_is_put_makes_an_instance(self):
        dice = chance(24)
        for _ in range(500):
            head = some_head(dice, 4)
            by = tuple((hole, some_tree(dice, 3)) for hole in holes_in(head))
            self.assertIs(is_instance(put_for(head, by), head), True)


if __name__ == "__main__":
    unittest.main()
