import unittest

from aheadofholes.meeting import meet
from aheadofholes.neverlooks import shows_never
from aheadofholes.nevers import never
from tests import reference
from tests.pairs import doubled_unlike, hard_pairs, ring, some_pairs
from tests.papers import X, Y, SY, hand_made, with_one_otherwise
from tests.reference import read
from tests.samples import chance, things

ONE, OTHER = read("l.v(x, x)"), read("l.v(y, l.s(y))")
START = ((0, ONE), (1, OTHER), ("start",))


class Looking(unittest.TestCase):
    def test_papers_made_by_others(self):
        for one, other, paper in hand_made():
            self.assertIs(reference.shows_never(one, other, paper), True, paper)
            self.assertIs(shows_never(one, other, paper), True, paper)
            self.assertIs(shows_never(one=one, other=other, thing=paper), True)
            self.assertIsNone(meet(one, other))

    def test_a_paper_of_the_pair_the_other_way_about(self):
        for one, other, paper in hand_made():
            self.assertIs(shows_never(other, one, paper), False)
            self.assertIs(shows_never(other, one, never(other, one)), True)

    def test_a_paper_of_another_pair(self):
        papers = [(one, other, never(one, other)) for one, other in some_pairs(51, 60)]
        for one, other, _ in papers:
            for _, _, paper in papers:
                self.assertEqual(shows_never(one, other, paper), reference.shows_never(one, other, paper))

    def test_things_of_any_kind(self):
        for thing in things():
            for made in [thing, (thing, thing), ((thing,), ("clash", 0)), ((START,), thing), ((START,), ("clash", thing)),
                         ((START,), ("ring", thing)), ((START,), ("ring", (thing,))), ((START, thing), ("clash", 0)),
                         ((thing, START), ("clash", 1))]:
                self.assertIs(shows_never(ONE, OTHER, made), False)

    def test_one_thing_otherwise_at_any_place(self):
        found = {True: 0, False: 0}
        for one, other, paper in hand_made():
            for made in with_one_otherwise(paper):
                told = shows_never(one, other, made)
                self.assertIs(told, reference.shows_never(one, other, made), made)
                found[told] += 1
        self.assertGreater(found[True], 20)
        self.assertGreater(found[False], 10000)

    def test_one_thing_otherwise_in_what_never_tells(self):
        dice = chance(52)
        papers = [(one, other, never(one, other)) for one, other in hard_pairs()]
        papers = [(one, other, paper) for one, other, paper in papers if paper and len(paper[0]) < 12]
        for one, other, paper in dice.sample(papers, 25):
            for made in with_one_otherwise(paper):
                self.assertIs(shows_never(one, other, made), reference.shows_never(one, other, made), made)

    def test_no_paper_shows_that_heads_that_meet_never_do(self):
        dice = chance(53)
        shown = 0
        for one, other in some_pairs(54, 150, 3, ["l.a", "m.s", "m.p"], ("x", "y")):
            rows = [((0, one), (1, other), ("start",))]
            for _ in range(60):
                self.add_row(dice, rows)
            rows = tuple(rows)
            ends = [("clash", number) for number in range(len(rows))]
            ends += [("ring", (number,)) for number in range(len(rows))]
            ends += [("ring", (dice.randrange(len(rows)), dice.randrange(len(rows)))) for _ in range(150)]
            for end in ends:
                if shows_never(one, other, (rows, end)):
                    shown += 1
                    self.assertIsNone(reference.meet(one, other))
        self.assertGreater(shown, 50)

    def add_row(self, dice, rows):
        """Puts a right row, got by chance from those ahead, behind them."""
        at, then = dice.randrange(len(rows)), dice.randrange(len(rows))
        first, second, _ = rows[at]
        sort = dice.choice(["part", "part", "back", "over"])
        if sort == "back":
            rows.append((second, first, ("back", at)))
        elif sort == "over" and rows[then][0] == second:
            rows.append((first, rows[then][1], ("over", at, then)))
        elif sort == "part" and type(first[1]) is tuple and type(second[1]) is tuple:
            if first[1][0] == second[1][0] and len(first[1]) > 1:
                part = dice.randrange(len(first[1]) - 1)
                rows.append(((first[0], first[1][part + 1]), (second[0], second[1][part + 1]), ("part", at, part)))


class Rows(unittest.TestCase):
    """What is refused, one row or end at a time; ROWS with END is right."""

    ROWS = (START, ((0, X), (1, Y), ("part", 0, 0)), ((0, X), (1, SY), ("part", 0, 1)),
            ((1, Y), (0, X), ("back", 1)), ((1, Y), (1, SY), ("over", 3, 2)))
    END = ("ring", (4,))

    def told(self, number, row):
        return shows_never(ONE, OTHER, (self.ROWS[:number] + (row,) + self.ROWS[number + 1:], self.END))

    def test_these_rows(self):
        self.assertIs(shows_never(ONE, OTHER, (self.ROWS, self.END)), True)

    def test_things_of_any_kind_at_any_place(self):
        for thing in things():
            for number, (first, second, ground) in enumerate(self.ROWS):
                for row in [thing, (thing, second, ground), (first, thing, ground), (first, second, thing),
                            (first, second, ground[:1] + (thing,)), (first, second, ground[:-1] + (thing,)),
                            ((thing, first[1]), second, ground), (first, (second[0], thing), ground)]:
                    if not reference.is_same_kind(row, self.ROWS[number]):
                        self.assertIs(self.told(number, row), False)
            for made in [thing, (thing, self.END), (self.ROWS, thing), (self.ROWS + (thing,), self.END),
                         (self.ROWS, ("ring", thing)), (self.ROWS, ("ring", (4, thing))), (self.ROWS, (thing, (4,))),
                         (self.ROWS, self.END + (thing,)), (self.ROWS, self.END, thing)]:
                self.assertIs(shows_never(ONE, OTHER, made), False)

    def test_starts(self):
        for row in [((1, OTHER), (0, ONE), ("start",)), ((0, OTHER), (1, ONE), ("start",)), ((0, ONE), (0, ONE), ("start",)),
                    ((1, ONE), (0, OTHER), ("start",)), START[:2], START + (0,), START[:2] + (("start", 0),),
                    START[:2] + ("start",), START[:2] + (["start"],), ((False, ONE), (True, OTHER), ("start",)),
                    ((0, list(ONE)), (1, OTHER), ("start",)), ((0, X), (1, Y), ("start",))]:
            self.assertIs(self.told(0, row), False, row)

    def test_grounds_that_name_themselves_or_rows_behind(self):
        for number, row in enumerate(self.ROWS):
            for named in range(number, 7):
                for ground in [("back", named), ("part", named, 0), ("part", named, 1), ("over", named, 0),
                               ("over", 0, named), ("over", named, named)]:
                    self.assertIs(self.told(number, row[:2] + (ground,)), False)

    def test_numbers_below_nought_and_truths(self):
        for number, ground in [(1, ("part", False, 0)), (1, ("part", 0, False)), (2, ("part", 0, True)), (1, ("part", -1, 0)),
                               (1, ("part", 0, -2)), (2, ("part", 0, -1)), (3, ("back", True)), (3, ("back", -2)),
                               (4, ("over", -1, -2)), (1, ("part", 0, 2)), (2, ("part", 0, 0)), (3, ("back", 1, 1)),
                               (4, ("over", 3)), (4, ("over", 3, 2, 2)), (1, ("part", 0)), (1, ("part", 0, 0, 0)),
                               (3, ("back",)), (4, ("over",)), (4, ())]:
            self.assertIs(self.told(number, self.ROWS[number][:2] + (ground,)), False, ground)

    def test_a_part_of_a_hole_or_of_unlike_trees(self):
        one, other = read("l.v(x, l.s(x))"), read("l.v(l.s(y), l.p(y, y))")
        rows = (((0, one), (1, other), ("start",)), ((0, X), (1, SY), ("part", 0, 0)),
                ((0, ("l.s", X)), (1, ("l.p", Y, Y)), ("part", 0, 1)))
        self.assertIs(shows_never(one, other, (rows, ("clash", 2))), True)
        for row in [((0, X), (1, Y), ("part", 2, 0)), ((0, X), (1, Y), ("part", 1, 0)), ((0, X), (1, SY), ("part", 1, 0))]:
            self.assertIs(shows_never(one, other, (rows + (row,), ("clash", 2))), False)
        one, other = read("l.v(l.s(x))"), read("l.v(l.s(x, y))")
        rows = (((0, one), (1, other), ("start",)), ((0, one[1]), (1, other[1]), ("part", 0, 0)))
        self.assertIs(shows_never(one, other, (rows, ("clash", 1))), True)
        row = ((0, X), (1, X), ("part", 1, 0))
        self.assertIs(shows_never(one, other, (rows + (row,), ("clash", 1))), False)

    def test_a_hole_has_no_parts(self):
        one, other = read("l.v(xy, l.a, y)"), read("l.v(xy, l.b, y)")
        rows = (((0, one), (1, other), ("start",)), ((0, ("l.a",)), (1, ("l.b",)), ("part", 0, 1)),
                ((0, "xy"), (1, "xy"), ("part", 0, 0)))
        self.assertIs(shows_never(one, other, (rows, ("clash", 1))), True)
        for ground in [("part", 2, 0), ("part", 2, 1), ("part", 2, -1)]:
            row = ((0, Y), (1, Y), ground)
            self.assertIs(shows_never(one, other, (rows + (row,), ("clash", 1))), False)

    def test_over_rows_that_do_not_follow(self):
        for ground in [("over", 2, 3), ("over", 1, 2), ("over", 3, 1), ("over", 3, 3), ("over", 0, 2)]:
            self.assertIs(self.told(4, self.ROWS[4][:2] + (ground,)), False)
        # One tree in one and in other isn't one side.
        one, other = read("l.v(x, l.a, l.b)"), read("l.v(l.b, x, x)")
        rows = (((0, one), (1, other), ("start",)), ((0, X), (1, ("l.b",)), ("part", 0, 0)),
                ((0, ("l.a",)), (1, X), ("part", 0, 1)), ((0, ("l.a",)), (1, ("l.b",)), ("over", 2, 1)))
        self.assertIs(shows_never(one, other, (rows, ("clash", 3))), False)

    def test_clashes(self):
        one, other = read("l.v(l.a, x)"), read("l.v(l.b, l.a)")
        rows = (((0, one), (1, other), ("start",)), ((0, ("l.a",)), (1, ("l.b",)), ("part", 0, 0)),
                ((0, X), (1, ("l.a",)), ("part", 0, 1)))
        self.assertIs(shows_never(one, other, (rows, ("clash", 1))), True)
        for number in [0, 2, 3, -1, -2, True, "1", None, (1,), [1]]:
            self.assertIs(shows_never(one, other, (rows, ("clash", number))), False)
        for end in [("clash", 1, 1), ("clash",), ["clash", 1], ("ring", 1), ("ring", (1,)), ("Clash", 1), (1, "clash"),
                    "clash", None, ()]:
            self.assertIs(shows_never(one, other, (rows, end)), False)

    def test_rings(self):
        for numbers in [(), (0,), (1,), (2,), (3,), (5,), (-1,), (4, 1), (4, 3), (3, 4), [4], (True,), (4, None), 4,
                        ("4",), (4, 5), (4, 4, 0), ((4,),), (4, -1)]:
            self.assertIs(shows_never(ONE, OTHER, (self.ROWS, ("ring", numbers))), False, numbers)
        for numbers in [(4,), (4, 4), (4,) * 9]:
            self.assertIs(shows_never(ONE, OTHER, (self.ROWS, ("ring", numbers))), True, numbers)

    def test_a_ring_needs_its_hole_on_its_own_side(self):
        one, other = read("l.v(x)"), read("l.v(l.s(x))")
        rows = (((0, one), (1, other), ("start",)), ((0, X), (1, ("l.s", X)), ("part", 0, 0)))
        self.assertIs(shows_never(one, other, (rows, ("ring", (1,)))), False)

    def test_a_ring_of_holes_alone(self):
        one, other = read("l.v(x, y)"), read("l.v(y, y)")
        rows = (((0, one), (1, other), ("start",)), ((0, X), (1, Y), ("part", 0, 0)), ((0, Y), (1, Y), ("part", 0, 1)),
                ((1, Y), (0, X), ("back", 1)), ((1, Y), (1, Y), ("over", 3, 1)), ((0, X), (0, X), ("over", 1, 3)))
        for numbers in [(1,), (4,), (5,), (1, 3), (3, 1), (4, 4), (1, 3, 1, 3)]:
            self.assertIs(shows_never(one, other, (rows, ("ring", numbers))), False)
        self.assertIsNone(never(one, other))

    def test_rings_of_several_rows(self):
        pair = ring(3)
        rows, (_, numbers) = never(*pair)
        self.assertEqual(len(numbers), 6)
        turned = numbers[2:] + numbers[:2]
        self.assertIs(shows_never(*pair, (rows, ("ring", turned))), True)
        self.assertIs(shows_never(*pair, (rows, ("ring", numbers + numbers))), True)
        for made in [numbers[::-1], numbers[1:], numbers[:-1], numbers[:1] + numbers, (numbers[1], numbers[0]) + numbers[2:]]:
            self.assertIs(shows_never(*pair, (rows, ("ring", made))), False)

    def test_trees_that_stand_in_neither(self):
        for number, side in [(1, (1, "z")), (2, (1, ("l.s", "x"))), (2, (1, ("l.s", "y", "y"))), (1, (0, Y)), (1, (2, Y)),
                             (1, (-1, Y)), (1, (True, Y)), (1, (1, [Y])), (2, (1, ["l.s", "y"])), (2, (1, ("l.s", ["y"])))]:
            self.assertIs(self.told(number, self.ROWS[number][:1] + (side,) + self.ROWS[number][2:]), False, side)

    def test_what_is_handed_in_stays_as_it_was(self):
        rows, end = [list(row) for row in self.ROWS], ["ring", [4]]
        shows_never(ONE, OTHER, (rows, end))
        self.assertEqual((rows, end), ([list(row) for row in self.ROWS], ["ring", [4]]))

    def test_papers_of_many_rows(self):
        pair = doubled_unlike(60)
        self.assertGreater(len(never(*pair)[0]), 500)
        self.assertIs(shows_never(*pair, never(*pair)), True)


if __name__ == "__main__":
    unittest.main()
