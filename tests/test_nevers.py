import unittest

from aheadofholes.neverlooks import shows_never
from aheadofholes.nevers import never
from tests import reference
from tests.pairs import doubled_unlike, doubling, doubling_clash, hard_pairs, holes_alone, open_chain, ring
from tests.reference import read


def kinds_of(thing):
    if type(thing) is not tuple:
        return {type(thing)}
    return {tuple}.union(*[kinds_of(inner) for inner in thing])


class Papers(unittest.TestCase):
    def test_none_just_where_they_meet(self):
        found = [0, 0]
        for one, other in hard_pairs():
            paper = never(one, other)
            self.assertEqual(paper is None, reference.meet(one, other) is not None)
            found[paper is None] += 1
        self.assertGreater(min(found), 200)

    def test_each_paper_is_right(self):
        ends = set()
        for one, other in hard_pairs():
            for first, second in [(one, other), (other, one)]:
                paper = never(one=first, other=second)
                if paper is not None:
                    self.assertIs(reference.shows_never(first, second, paper), True)
                    self.assertIs(shows_never(first, second, paper), True)
                    ends.add((paper[1][0], len(paper[1][1]) if paper[1][0] == "ring" else 0))
        self.assertTrue({("clash", 0), ("ring", 1), ("ring", 2), ("ring", 3), ("ring", 14)} <= ends)

    def test_told_are_tuples_numbers_and_texts(self):
        for one, other in [ring(3), doubling_clash(4), (("l.a",), ("l.b",))]:
            self.assertEqual(kinds_of(never(one, other)), {tuple, int, str})

    def test_plain_papers(self):
        one, other = ("l.a",), ("l.b",)
        self.assertEqual(never(one, other), ((((0, one), (1, other), ("start",)),), ("clash", 0)))
        one, other = ("l.a",), ("l.a", "x")
        self.assertEqual(never(one, other), ((((0, one), (1, other), ("start",)),), ("clash", 0)))
        self.assertIsNone(never(("l.a", "x"), ("l.a", ("l.s", "x"))))

    def test_no_row_stands_without_need(self):
        for one, other in hard_pairs():
            paper = never(one, other)
            if paper is not None:
                rows, end = paper
                needed = {end[1]} if end[0] == "clash" else set(end[1])
                for _, _, ground in rows:
                    needed.update(ground[1:2] if ground[0] == "part" else ground[1:])
                self.assertEqual(needed, set(range(len(rows))))

    def test_holes_called_alike_are_unlike(self):
        self.assertIsNone(never(read("l.v(x)"), read("l.v(l.s(x))")))
        self.assertIsNone(never(read("l.v(x, y)"), read("l.v(l.s(y), l.s(x))")))
        self.assertIsNotNone(never(read("l.v(x, x)"), read("l.v(x, l.s(x))")))

    def test_rings_and_chains(self):
        for many in [1, 2, 3, 7, 14, 60]:
            paper = never(*ring(many))
            self.assertEqual(paper[1][0], "ring")
            self.assertIs(shows_never(*ring(many), paper), True)
            self.assertIsNone(never(*open_chain(many)))
            self.assertIsNone(never(*holes_alone(many)))

    def test_what_doubles_a_hundredfold_clashes_all_the_same(self):
        for pair in [doubling_clash(12), doubling_clash(100), doubled_unlike(9), doubled_unlike(60)]:
            paper = never(*pair)
            self.assertEqual(paper[1][0], "clash")
            self.assertIs(shows_never(*pair, paper), True)
        self.assertIsNone(never(*doubling(60)))

    def test_nothing_is_changed_and_the_same_is_told_again(self):
        one, other = ring(3)
        told = never(one, other)
        self.assertEqual(never(one, other), told)
        self.assertEqual((one, other), ring(3))


if __name__ == "__main__":
    unittest.main()
