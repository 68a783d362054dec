import unittest

from aheadofholes.errors import HoleError, NoText
from aheadofholes.trees import is_tree
from aheadofholes.treetexts import read_tree, show_tree
from tests.samples import chance, deep, some_tree, things

TEXTS = {
    "x": "x",
    "abcdefgh": "abcdefgh",
    "l.nil": ("l.nil",),
    "l.cons(x, l.nil)": ("l.cons", "x", ("l.nil",)),
    "l.a(x)": ("l.a", "x"),
    "l.a(x, y, z)": ("l.a", "x", "y", "z"),
    "l.a(l.b(l.c), l.d(x, l.e(y)), z)": ("l.a", ("l.b", ("l.c",)), ("l.d", "x", ("l.e", "y")), "z"),
}

NEARLY = [
    "", " ", "l.a()", "l.a(x, y, z, w)", "l.a(l.b(x, y, z, w))", "l.a(x,y)", "l.a(x,  y)", "l.a( x)", "l.a(x )",
    "l.a (x)", " l.a", "l.a ", " x", "x ", "l.a(x) ", "l.a(x", "l.a(x,", "l.a(x, ", "l.a(x, )", "l.a(, x)", "l.a(x))",
    "l.ax)", "l.a(", "l.a)", "(", ")", "()", ", ", ",", "(x)", "x(y)", "x()", "l.a(x)(y)", "l.a(x)y", "l.a(x) y",
    "l.a(x)l.b", "x, y", "l.a, l.b", "l.a(x) , y", "l.a(x ,y)", "l.a(x, y, )", "l.a(x, , y)", "l.", ".a", "l.a.b",
    "l..a", "L.a", "l.A", "X", "l.a1", "abcdefghi", "abcdefghi.a", "l.abcdefghi", "l.a(abcdefghi)", "l.a(x\n)",
    "\nx", "x\n", "l.a(x,\ny)", "l.a(x, \ny)", "l.a(\nx)", "l.a\n(x)", "l.a(x)\n", "l.a((x))", "(l.a)", "l.a(x;y)",
    "l.a[x]", "l.a(x, y))", "l.a(l.b()", "l.a(l.b())", "l.a(l.b(x)", "\u00e4", "l.\u00e4", "l.a(x,\u00a0y)", "l a",
    "x.y(", "l.a(x)(", "l.a(l.b)(x)", "l.a(x, y)(z)", "l.a(x)(y)(z)", "x\ty", "l.a(x, y) = z",
]


class Texts(unittest.TestCase):
    def test_trees_as_written(self):
        for text, tree in TEXTS.items():
            self.assertEqual(show_tree(tree), text)
            self.assertEqual(read_tree(text), tree)
            self.assertEqual(show_tree(tree=tree), text)
            self.assertEqual(read_tree(text=text), tree)

    def test_each_tree_is_read_back(self):
        dice = chance(11)
        for _ in range(1000):
            tree = some_tree(dice, 6)
            self.assertEqual(read_tree(show_tree(tree)), tree)

    def test_texts_that_are_nearly_one(self):
        for text in NEARLY:
            with self.assertRaises(NoText, msg=ascii(text)):
                read_tree(text)

    def test_a_sign_left_out_put_in_or_exchanged(self):
        dice = chance(12)
        signs = "(), .xl\nA1"
        read = 0
        for _ in range(150):
            text = show_tree(some_tree(dice, 4))
            for at in range(len(text) + 1):
                for other in [text[:at] + text[at + 1:], text[:at] + dice.choice(signs) + text[at:],
                              text[:at] + dice.choice(signs) + text[at + 1:]]:
                    read += self.is_read_right(other)
        self.assertGreater(read, 100)

    def test_texts_of_any_signs(self):
        dice = chance(13)
        pieces = ["l.a", "l.b", "x", "y", "(", ")", ", ", "(", ")", ", ", ",", " ", ".", "\n"]
        read = 0
        for _ in range(20000):
            read += self.is_read_right("".join(dice.choices(pieces, k=dice.randrange(9))))
        self.assertGreater(read, 100)

    def is_read_right(self, text):
        """Whether it is a text of a tree; if so it is that very tree's text."""
        try:
            tree = read_tree(text)
        except NoText:
            return False
        self.assertTrue(is_tree(tree))
        self.assertEqual(show_tree(tree), text)
        return True

    def test_brackets_thousands_deep(self):
        for many in [2000, 4000, 6000]:
            for text in ["l.a(" * many, "(" * many, "l.a(" * many + "x", "l.a(" * many + "x" + ")" * (many - 1),
                         "l.a(x, " * (many // 2), "l.a(" * many + "x" + ")" * many, ")" * many,
                         "l.a(" * many + "x" + ")" * (many + 1)]:
                with self.assertRaises(NoText):
                    read_tree(text)

    def test_trees_nested_a_few_hundred_deep(self):
        for many in [19, 20, 199, 200, 500]:
            tree = deep(tuple, many, "x")
            text = "l.s(" * many + "x" + ")" * many
            self.assertEqual(show_tree(tree), text)
            self.assertEqual(show_tree(read_tree(text)), text)
        self.assertEqual(read_tree("l.s(" * 200 + "x" + ")" * 200), deep(tuple, 200, "x"))

    def test_things_that_are_no_text(self):
        for thing in things() + [["l.a"], ("l.a",), b"l.a", 1, None, True]:
            with self.assertRaises(NoText) as caught:
                read_tree(thing)
            self.assertIsInstance(caught.exception, HoleError)
            self.assertIsInstance(caught.exception, ValueError)


if __name__ == "__main__":
    unittest.main()
