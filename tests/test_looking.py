import itertools
import unittest

from aheadofholes.looking import looked
from aheadofholes.trees import holes_in, names_in, tree_at
from tests import plainly
from tests.reference import read
from tests.samples import chance, deep

WORDS = (("l.cons", (1, 0)), ("l.nil", ()), ("l.pair", (0, 1)), ("l.s", (0,)), ("m.tri", (2, 0, 1)))
VERBS = (
    ("l.add", (0, 1), "deep"), ("l.back", (1, 0), "deep"), ("l.now", (), "deep"), ("l.wadd", (0, 1), "wide"),
    ("l.wback", (1, 0), "wide"), ("m.tr", (1, 2, 0), "deep"), ("m.wnow", (), "wide"), ("m.wtr", (1, 2, 0), "wide"),
)
LORE = (WORDS, VERBS)


def symbols(text, lore=LORE):
    return " ".join(symbol for _, symbol in looked(lore, read(text)))


def some_lore(dice):
    words, verbs = [], []
    for letter in "abcde":
        words.append((f"w.{letter}", some_order(dice)))
    words.append(("w.f", ()))
    for letter in "abcde":
        verbs.append((f"v.{letter}", some_order(dice), dice.choice(["deep", "wide"])))
    return (tuple(words), tuple(verbs))


def some_order(dice):
    return dice.choice([order for many in range(4) for order in itertools.permutations(range(many))])


def some_tree(dice, lore, depth, holes):
    if dice.random() < holes:
        return dice.choice("xyz")
    full, order = dice.choice([word for word in lore[0] if depth > 1 or not word[1]])
    return (full, *[some_tree(dice, lore, depth - 1, holes) for _ in order])


class Deep(unittest.TestCase):
    def test_each_part_wholly(self):
        self.assertEqual(looked(LORE, read("l.add(l.s(l.pair(l.nil, x)), y)")), (
            ((), "l.add"), ((0,), "l.s"), ((0, 0), "l.pair"), ((0, 0, 0), "l.nil"), ((0, 0, 1), "x")))
        self.assertEqual(symbols("l.add(l.pair(l.s(l.nil), l.nil), l.s(z))"), "l.add l.pair l.s l.nil l.nil l.s z")

    def test_a_verb_whose_order_turns_its_parts(self):
        self.assertEqual(looked(LORE, read("l.back(x, l.s(y))")), (((), "l.back"), ((1,), "l.s"), ((1, 0), "y")))
        self.assertEqual(looked(LORE, read("l.back(x, l.nil)")), (((), "l.back"), ((1,), "l.nil"), ((0,), "x")))
        self.assertEqual(symbols("m.tr(l.nil, l.s(l.nil), l.pair(l.nil, l.nil))"),
                         "m.tr l.s l.nil l.pair l.nil l.nil l.nil")
        self.assertEqual([place for place, _ in looked(LORE, read("m.tr(l.nil, l.nil, l.nil)"))], [(), (1,), (2,), (0,)])

    def test_words_whose_own_orders_turn_theirs(self):
        self.assertEqual(looked(LORE, read("l.add(l.cons(x, l.nil), y)")), (
            ((), "l.add"), ((0,), "l.cons"), ((0, 1), "l.nil"), ((0, 0), "x")))
        self.assertEqual(looked(LORE, read("l.back(y, m.tri(l.s(l.nil), x, l.cons(l.nil, l.s(l.nil))))")), (
            ((), "l.back"), ((1,), "m.tri"), ((1, 2), "l.cons"), ((1, 2, 1), "l.s"), ((1, 2, 1, 0), "l.nil"),
            ((1, 2, 0), "l.nil"), ((1, 0), "l.s"), ((1, 0, 0), "l.nil"), ((1, 1), "x")))


class Wide(unittest.TestCase):
    def test_row_by_row(self):
        self.assertEqual(looked(LORE, read("l.wadd(l.s(l.pair(x, y)), l.pair(l.s(l.nil), l.nil))")), (
            ((), "l.wadd"), ((0,), "l.s"), ((1,), "l.pair"), ((0, 0), "l.pair"), ((1, 0), "l.s"), ((1, 1), "l.nil"),
            ((0, 0, 0), "x")))
        self.assertEqual(symbols("l.wadd(l.s(x), l.s(l.nil))"), "l.wadd l.s l.s x")
        self.assertEqual(symbols("l.wadd(l.pair(l.s(l.s(l.nil)), l.nil), l.s(l.pair(l.nil, l.nil)))"),
                         "l.wadd l.pair l.s l.s l.nil l.pair l.s l.nil l.nil l.nil")

    def test_orders_turn_the_parts_about(self):
        self.assertEqual(looked(LORE, read("l.wback(l.cons(x, l.nil), l.cons(l.s(y), l.nil))")), (
            ((), "l.wback"), ((1,), "l.cons"), ((0,), "l.cons"), ((1, 1), "l.nil"), ((1, 0), "l.s"), ((0, 1), "l.nil"),
            ((0, 0), "x")))
        self.assertEqual([place for place, _ in looked(LORE, read("m.wtr(l.s(l.nil), m.tri(l.nil, l.nil, x), l.s(l.nil))"))],
                         [(), (1,), (2,), (0,), (1, 2)])
        self.assertEqual([place for place, _ in looked(LORE, read("m.wtr(l.s(l.nil), m.tri(x, l.nil, l.nil), l.s(l.nil))"))],
                         [(), (1,), (2,), (0,), (1, 2), (1, 0)])
        self.assertEqual([place for place, _ in looked(LORE, read("m.wtr(l.s(x), l.cons(l.nil, l.nil), l.s(l.nil))"))],
                         [(), (1,), (2,), (0,), (1, 1), (1, 0), (2, 0), (0, 0)])

    def test_the_verb_alone_tells_the_way(self):
        for text in ["(l.s(l.nil), x)", "(l.pair(l.nil, l.s(x)), l.nil)", "(l.cons(l.s(l.s(x)), y), l.s(z))"]:
            deep_names, wide_names = symbols("l.add" + text), symbols("l.wadd" + text)
            self.assertEqual(deep_names.split()[0], "l.add")
            self.assertEqual(wide_names.split()[0], "l.wadd")
            self.assertNotEqual(deep_names.split()[1:], wide_names.split()[1:])


class Looking(unittest.TestCase):
    def test_a_verb_alone(self):
        self.assertEqual(looked(LORE, ("l.now",)), (((), "l.now"),))
        self.assertEqual(looked(LORE, ("m.wnow",)), (((), "m.wnow"),))
        self.assertEqual(looked(((), VERBS), ("m.wnow",)), (((), "m.wnow"),))

    def test_a_hole_as_the_first_part_that_is_met(self):
        for verb in ["l.add", "l.wadd"]:
            self.assertEqual(looked(LORE, (verb, "x", ("l.nil",))), (((), verb), ((0,), "x")))
            self.assertEqual(looked(LORE, (verb, "x", "x")), (((), verb), ((0,), "x")))
        for verb in ["l.back", "l.wback"]:
            self.assertEqual(looked(LORE, (verb, ("l.nil",), "y")), (((), verb), ((1,), "y")))
            self.assertEqual(looked(LORE, (verb, "x", "y")), (((), verb), ((1,), "y")))

    def test_nothing_behind_the_first_hole_is_told(self):
        for text in ["l.add(l.s(x), l.nil)", "l.wadd(x, l.nil)", "l.add(l.pair(x, y), z)", "m.wtr(l.nil, x, l.s(l.nil))",
                     "m.tr(l.s(l.nil), l.s(y), x)"]:
            steps = looked(LORE, read(text))
            self.assertEqual([symbol for _, symbol in steps if "." not in symbol], [steps[-1][1]])
        self.assertEqual(len(looked(LORE, read("l.add(l.s(x), l.nil)"))), 3)

    def test_a_hole_that_comes_again(self):
        self.assertEqual(looked(LORE, read("l.back(x, l.s(x))"))[-1], ((1, 0), "x"))
        self.assertEqual(looked(LORE, read("l.wback(x, l.s(x))"))[-1], ((0,), "x"))

    def test_a_form_has_each_place_once(self):
        dice = chance(71)
        for _ in range(300):
            lore = some_lore(dice)
            verb = dice.choice(lore[1])
            form = (verb[0], *[some_tree(dice, lore, 4, 0) for _ in verb[1]])
            steps = looked(lore, form)
            self.assertEqual(len(steps), len(names_in(form)))
            self.assertEqual(len({place for place, _ in steps}), len(steps))
            self.assertEqual(steps[0], ((), verb[0]))
            for place, symbol in steps:
                self.assertEqual(tree_at(form, place)[0], symbol)

    def test_any_heads_as_told_plainly(self):
        dice = chance(72)
        ends = [0, 0]
        for _ in range(3000):
            lore = some_lore(dice)
            verb = dice.choice(lore[1])
            head = (verb[0], *[some_tree(dice, lore, 4, dice.choice([0, 0.1, 0.3])) for _ in verb[1]])
            steps = looked(lore, head)
            self.assertEqual(steps, plainly.looked(lore, head))
            ends[bool(holes_in(head))] += 1
            self.assertEqual("." not in steps[-1][1], bool(holes_in(head)))
        self.assertGreater(min(ends), 500)

    def test_nested_twenty_deep(self):
        tower = deep(tuple, 18, "x")
        for verb in ["l.add", "l.wadd"]:
            steps = looked(LORE, (verb, tower, ("l.nil",)))
            self.assertEqual(steps[-1], ((0,) * 19, "x"))
            self.assertEqual(len(steps), 20 + (verb == "l.wadd"))
        for verb, last in [("l.add", (1,) * 1), ("l.wadd", (0,) * 19)]:
            steps = looked(LORE, (verb, deep(tuple, 18, ("l.nil",)), ("l.nil",)))
            self.assertEqual((len(steps), steps[-1]), (21, (last, "l.nil")))
        pairs = ("l.nil",)
        for _ in range(18):
            pairs = ("l.pair", ("l.s", "x"), pairs)
        self.assertEqual(looked(LORE, ("l.wback", pairs, ("l.nil",)))[-1], ((0, 0, 0), "x"))

    def test_sixty_names(self):
        tree = ("l.nil",)
        for _ in range(19):
            tree = ("l.pair", ("l.s", ("l.nil",)), tree)
        for verb in ["l.add", "l.wadd", "l.back", "l.wback"]:
            self.assertEqual(len(looked(LORE, (verb, tree, ("l.nil",)))), 60)

    def test_handed_in_by_name_and_asked_again(self):
        head = read("l.wback(l.cons(x, l.nil), l.nil)")
        told = looked(lore=LORE, head=head)
        self.assertEqual(told, looked(LORE, head))
        self.assertIs(type(told), tuple)
        self.assertTrue(all(type(step) is tuple and type(step[0]) is tuple for step in told))
        self.assertEqual(head, read("l.wback(l.cons(x, l.nil), l.nil)"))


if __name__ == "__main__":
    unittest.main()
