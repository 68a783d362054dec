import unittest

from aheadofholes.trees import holes_in, is_form, is_full, is_name, is_tree, line_of, names_in, nth_name, put_for
from aheadofholes.trees import renamed, tree_at
from tests.reference import name_of, read
from tests.samples import Alike, Touchy, chance, deep, some_head, some_tree, things, tree_trees

LIST = ("l.cons", "x", ("l.nil",))


class Names(unittest.TestCase):
    def test_names_of_one_to_eight_letters(self):
        for name in ["a", "z", "ab", "word", "abcdefgh", "zzzzzzzz"]:
            self.assertIs(is_name(name), True, name)

    def test_no_names(self):
        for text in ["", "abcdefghi", "A", "aB", "a1", "1", "a b", " a", "a ", "a.b", ".", "a_", "-", "a\n", "\u00e4",
                     "\u0430", "a\u0301", "\uff41", "\u00aa", "a" * 5000]:
            self.assertIs(is_name(text), False, ascii(text))

    def test_full_names(self):
        for name in ["a.b", "l.cons", "abcdefgh.abcdefgh", "z.z"]:
            self.assertIs(is_full(name), True, name)

    def test_no_full_names(self):
        for text in ["", ".", "a", "a.", ".a", "a..b", "a.b.", ".a.b", "a.b.c", "abcdefghi.a", "a.abcdefghi", "A.b",
                     "a.B", "a.1", "a .b", "a. b", "a.b ", " a.b", "a,b", "a.b\n", "a.\u00e4", "l.a()", "a" * 5000]:
            self.assertIs(is_full(text), False, ascii(text))

    def test_things_of_any_kind(self):
        for thing in things():
            self.assertIs(is_name(thing), False)
            self.assertIs(is_full(thing), False)

    def test_the_line_of_a_full_name(self):
        self.assertEqual(line_of("l.cons"), "l")
        self.assertEqual(line_of("abcdefgh.z"), "abcdefgh")
        self.assertEqual(line_of(full="a.b"), "a")


class Trees(unittest.TestCase):
    def test_trees(self):
        for tree in ["x", "abcdefgh", ("l.nil",), LIST, ("l.a", "x"), ("l.a", "x", "x", "x"), ("l.a", LIST, LIST, LIST)]:
            self.assertIs(is_tree(tree), True, tree)
            self.assertIs(is_tree(thing=tree), True, tree)

    def test_forms_have_no_holes(self):
        self.assertIs(is_form(("l.nil",)), True)
        self.assertIs(is_form(("l.a", ("l.b",), ("l.c", ("l.d",)))), True)
        self.assertIs(is_form("x"), False)
        self.assertIs(is_form(LIST), False)
        self.assertIs(is_form(("l.a", ("l.b", ("l.c", "x")))), False)

    def test_a_fourth_part_is_too_many(self):
        self.assertIs(is_tree(("l.a", "x", "y", "z", "w")), False)
        self.assertIs(is_tree(("l.a", ("l.b", "x", "y", "z", "w"))), False)
        self.assertIs(is_form(("l.a",) + (("l.b",),) * 4), False)

    def test_things_of_any_kind(self):
        for thing in things():
            self.assertIs(is_tree(thing), False)
            self.assertIs(is_form(thing), False)

    def test_things_of_any_kind_within(self):
        for thing in things():
            for tree in [("l.a", thing), ("l.a", ("l.b",), thing), ("l.a", ("l.b", ("l.c",), thing, "x")),
                         (thing,), (thing, "x"), ("l.a", (thing,)), deep(tuple, 20, thing)]:
                self.assertIs(is_tree(tree), False)
                self.assertIs(is_form(tree), False)

    def test_lists_in_the_places_of_tuples(self):
        self.assertIs(is_tree(["l.nil"]), False)
        self.assertIs(is_tree(("l.a", ["l.nil"])), False)
        self.assertIs(is_form(("l.a", ("l.b", ["l.nil"]))), False)

    def test_kinds_made_from_texts_and_tuples_are_not_trusted(self):
        class Text(str):
            pass

        class Row(tuple):
            pass

        self.assertIs(is_name(Text("x")), False)
        self.assertIs(is_full(Text("l.a")), False)
        self.assertIs(is_tree(Row(("l.a",))), False)
        self.assertIs(is_tree(("l.a", Text("x"))), False)

    def test_nested_thirty_deep(self):
        self.assertIs(is_tree(deep(tuple, 29, "x")), True)
        self.assertIs(is_form(deep(tuple, 29, ("l.a",))), True)
        self.assertIs(is_form(deep(tuple, 29, "x")), False)
        self.assertIs(is_tree(deep(tuple, 29, 1)), False)
        self.assertIs(is_tree(deep(list, 30, "x")), False)

    def test_nested_beyond_what_callers_hand_in(self):
        tree = deep(tuple, 3000, "x")
        self.assertIs(is_tree(tree), True)
        self.assertEqual(holes_in(tree), ("x",))
        self.assertEqual(len(names_in(tree)), 3000)
        self.assertEqual(tree_at(tree, (0,) * 3000), "x")
        self.assertEqual(tree_at(put_for(tree, (("x", "y"),)), (0,) * 3000), "y")
        self.assertEqual(holes_in(renamed(tree)), ("a",))

    def test_what_is_asked_stays_as_it_was(self):
        inner = ["l.a", ["x"]]
        thing = ("l.a", inner)
        is_tree(thing)
        is_form(thing)
        self.assertEqual(thing, ("l.a", ["l.a", ["x"]]))


class HolesAndNames(unittest.TestCase):
    def test_holes_as_they_first_come(self):
        self.assertEqual(holes_in("x"), ("x",))
        self.assertEqual(holes_in(("l.nil",)), ())
        self.assertEqual(holes_in(LIST), ("x",))
        self.assertEqual(holes_in(read("l.a(z, l.b(y, z), l.c(x, y, a))")), ("z", "y", "x", "a"))
        self.assertEqual(holes_in(read("l.a(l.b(l.c(b)), a, b)")), ("b", "a"))
        self.assertEqual(holes_in(tree=LIST), ("x",))

    def test_names_as_often_as_they_come(self):
        self.assertEqual(names_in("x"), ())
        self.assertEqual(names_in(LIST), ("l.cons", "l.nil"))
        self.assertEqual(names_in(read("l.a(l.b(l.a(x)), l.a, l.c(y, l.b))")),
                         ("l.a", "l.b", "l.a", "l.a", "l.c", "l.b"))
        self.assertEqual(names_in(tree=("l.nil",)), ("l.nil",))

    def test_both_of_many_trees(self):
        dice = chance(1)
        for _ in range(300):
            tree = some_tree(dice, 5)
            inner = tree_trees(tree)
            holes = [part for part in inner if isinstance(part, str)]
            self.assertEqual(holes_in(tree), tuple(dict.fromkeys(holes)))
            self.assertEqual(names_in(tree), tuple(part[0] for part in inner if not isinstance(part, str)))


class Putting(unittest.TestCase):
    def test_trees_for_holes(self):
        self.assertEqual(put_for("x", (("x", LIST),)), LIST)
        self.assertEqual(put_for(LIST, (("x", ("l.nil",)),)), ("l.cons", ("l.nil",), ("l.nil",)))
        self.assertEqual(put_for(read("l.a(x, y, l.b(x))"), (("x", ("l.c",)),)), read("l.a(l.c, y, l.b(l.c))"))
        self.assertEqual(put_for(tree="x", by=(("x", "y"),)), "y")

    def test_all_at_once(self):
        tree = read("l.a(x, y, l.b(y, x))")
        self.assertEqual(put_for(tree, (("x", "y"), ("y", "x"))), read("l.a(y, x, l.b(x, y))"))
        self.assertEqual(put_for(tree, (("x", read("l.c(x, y)")), ("y", "z"))),
                         read("l.a(l.c(x, y), z, l.b(z, l.c(x, y)))"))

    def test_holes_that_the_tree_lacks_and_none(self):
        self.assertEqual(put_for(LIST, (("y", ("l.a",)),)), LIST)
        self.assertEqual(put_for(LIST, ()), LIST)
        self.assertEqual(put_for(("l.a",), (("y", "x"), ("x", "y"))), ("l.a",))

    def test_the_order_of_pairs_means_nothing(self):
        dice = chance(2)
        for _ in range(200):
            tree = some_tree(dice, 4)
            by = [(hole, some_tree(dice, 3)) for hole in ["x", "y", "z"]]
            self.assertEqual(put_for(tree, tuple(by)), put_for(tree, tuple(reversed(by))))
            put = dict(by)
            wanted = [put.get(part, part) for part in tree_trees(tree) if isinstance(part, str)]
            got = put_for(tree, tuple(by))
            self.assertTrue(is_tree(got))
            for hole, part in zip([p for p in self.places(tree)], wanted):
                self.assertEqual(tree_at(got, hole), part)

    def places(self, tree):
        if isinstance(tree, str):
            return [()]
        return [(number,) + inner for number, part in enumerate(tree[1:]) for inner in self.places(part)]

    def test_the_tree_stays_as_it_was(self):
        tree = read("l.a(x, l.b(y))")
        by = (("x", "y"),)
        put_for(tree, by)
        self.assertEqual((tree, by), (read("l.a(x, l.b(y))"), (("x", "y"),)))


class Renaming(unittest.TestCase):
    def test_holes_by_their_coming(self):
        self.assertEqual(renamed("x"), "a")
        self.assertEqual(renamed(("l.nil",)), ("l.nil",))
        self.assertEqual(renamed(read("l.a(z, b, l.b(z, a))")), read("l.a(a, b, l.b(a, c))"))
        self.assertEqual(renamed(read("l.a(b, a)")), read("l.a(a, b)"))
        self.assertEqual(renamed(tree="q"), "a")

    def test_names_beyond_z(self):
        for number, name in [(0, "a"), (25, "z"), (26, "aa"), (27, "ab"), (51, "az"), (52, "ba"), (77, "bz"),
                             (701, "zz"), (702, "aaa")]:
            self.assertEqual(nth_name(number), name)

    def test_more_than_a_hundred_holes(self):
        holes = [name_of(number) for number in range(200)]
        mixed = list(holes)
        chance(3).shuffle(mixed)
        self.assertEqual(renamed(self.row_of(mixed)), self.row_of(holes))
        self.assertEqual(holes_in(renamed(self.row_of(mixed)))[99:105], ("cv", "cw", "cx", "cy", "cz", "da"))

    def row_of(self, holes):
        tree = ("l.nil",)
        for first, second in zip(holes[-2::-2], holes[::-2]):
            tree = ("l.cons", first, second, tree)
        return tree

    def test_like_trees_are_one_renamed(self):
        dice = chance(4)
        for _ in range(200):
            tree = some_head(dice, 4)
            other = put_for(tree, (("x", "y"), ("y", "b"), ("z", "a"), ("a", "x"), ("b", "z")))
            self.assertEqual(renamed(tree), renamed(other))
            self.assertEqual(renamed(renamed(tree)), renamed(tree))
            self.assertEqual(holes_in(renamed(tree)), ("a", "b", "c", "d", "e")[:len(holes_in(tree))])


class Places(unittest.TestCase):
    TREE = ("l.a", "x", ("l.b", ("l.c", "y"), "z"), ("l.d",))

    def test_every_place(self):
        found = {(): self.TREE, (0,): "x", (1,): self.TREE[2], (1, 0): ("l.c", "y"), (1, 0, 0): "y", (1, 1): "z",
                 (2,): ("l.d",)}
        for place, tree in found.items():
            self.assertEqual(tree_at(self.TREE, place), tree)
        self.assertEqual(tree_at("x", ()), "x")
        self.assertEqual(tree_at(tree=self.TREE, place=(2,)), ("l.d",))

    def test_no_such_place(self):
        for place in [(3,), (-1,), (0, 0), (2, 0), (1, 2), (1, 0, 1), (1, 0, 0, 0), (1, -1), (-3,), (10 ** 4000,)]:
            self.assertIsNone(tree_at(self.TREE, place), place)
        self.assertIsNone(tree_at("x", (0,)))
        self.assertIsNone(tree_at("xyz", (1,)))

    def test_what_is_no_number(self):
        for thing in [True, False, "0", None, "", (), (0,), [0], b"0", Alike(), Touchy()]:
            self.assertIsNone(tree_at(self.TREE, (thing,)))
            self.assertIsNone(tree_at(self.TREE, (1, thing)))
            self.assertIsNone(tree_at(self.TREE, (1, 0, thing)))

    def test_what_is_no_place(self):
        for thing in [[], [0], [1, 0], "", "0", 0, True, None, {0: 1}, {}, range(0), b""] + things():
            if type(thing) is not tuple or any(type(number) is not int for number in thing):
                self.assertIsNone(tree_at(self.TREE, thing))


if __name__ == "__main__":
    unittest.main()
