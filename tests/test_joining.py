import itertools
import unittest

from aheadofholes.errors import Forked, HoleError
from aheadofholes.houses import part
from aheadofholes.joining import joined
from aheadofholes.rule import is_book
from tests import plainly
from tests.books import BOOK, K_ONE, L_ONE, L_TWO, M_ONE, M_TWO, N_ONE, edition, let_by_rows, some_book, some_edition
from tests.books import with_field
from tests.samples import chance

BASE = (L_ONE, K_ONE)
ONE = BASE + (M_ONE, edition("k", 2, "l 1", "kit", "", "", "l.add(k.kit, x) = x"), edition("a", 1))
OTHER = (K_ONE, L_ONE, L_TWO, edition("o", 1, "l 2"), edition("l", 3, "o 1", "late"), edition("o", 2))


def many_of(line, many):
    return tuple(edition(line, number) for number in range(1, many + 1))


class Joined(unittest.TestCase):
    def forked(self, book, other, key):
        for one, then in [(book, other), (other, book)]:
            self.assertTrue(plainly.is_book(one))
            with self.assertRaises(Forked) as caught:
                joined(one, then)
            self.assertEqual(vars(caught.exception), {"key": key})
            self.assertIsInstance(caught.exception, HoleError)

    def test_with_itself_and_with_none(self):
        self.assertEqual(joined(BOOK, BOOK), BOOK)
        self.assertEqual(joined(BOOK, ()), BOOK)
        self.assertEqual(joined((), BOOK), BOOK)
        self.assertEqual(joined((), ()), ())
        self.assertIs(type(joined((), ())), tuple)
        self.assertEqual(joined(book=(K_ONE,), other=(L_ONE,)), (K_ONE, L_ONE))

    def test_with_a_house_of_it_and_with_a_greater_one(self):
        for keys in [(("l", 2),), (("m", 1), ("k", 1)), (("n", 1),), (("m", 2),)]:
            house = part(BOOK, keys)
            self.assertEqual(joined(BOOK, house), BOOK)
            self.assertEqual(joined(house, BOOK), house + tuple(made for made in BOOK if made not in house))
        self.assertEqual(joined((L_ONE, L_TWO), BOOK), (L_ONE, L_TWO, K_ONE, M_ONE, N_ONE, M_TWO))

    def test_with_itself_in_another_order(self):
        turned = (K_ONE, L_ONE, L_TWO, N_ONE, M_ONE, M_TWO)
        self.assertEqual(joined(BOOK, turned), BOOK)
        self.assertEqual(joined(turned, BOOK), turned)

    def test_grown_apart_by_several_lines(self):
        self.assertTrue(plainly.is_book(ONE) and plainly.is_book(OTHER))
        self.assertEqual(joined(ONE, OTHER), ONE + OTHER[2:])
        self.assertEqual(joined(OTHER, ONE), OTHER + ONE[2:])
        self.assertTrue(plainly.is_book(ONE + OTHER[2:]) and plainly.is_book(OTHER + ONE[2:]))

    def test_the_others_order_stays(self):
        others = [edition(line, 1) for line in "dacb"]
        for turned in itertools.permutations(others):
            self.assertEqual(joined((L_ONE,), turned), (L_ONE,) + turned)
            self.assertEqual(joined((others[1],), turned)[1:], tuple(made for made in turned if made != others[1]))

    def test_a_line_that_has_more_there(self):
        self.assertEqual(joined(many_of("l", 3), many_of("l", 11)), many_of("l", 11))
        self.assertEqual(joined(many_of("l", 11), many_of("l", 3)), many_of("l", 11))

    def test_forked_with_the_least_key(self):
        one = many_of("l", 11)
        for at in range(11):
            bent = one[:at] + (with_field(one[at], 3, ((f"l.{'abcdefghijk'[at]}", ()),)),) + one[at + 1:]
            self.forked(one, bent, ("l", at + 1))

    def test_forked_with_the_least_of_several(self):
        one = many_of("l", 11) + many_of("b", 2) + many_of("la", 1)
        words = {made[:2]: with_field(made, 3, ((f"{made[0]}.{'abcdefghijk'[made[1] - 1]}", ()),)) for made in one}
        for keys, least in [
            ([("l", 9), ("l", 10)], ("l", 9)), ([("l", 10), ("l", 11)], ("l", 10)), ([("l", 10), ("l", 2)], ("l", 2)),
            ([("l", 1), ("b", 2)], ("b", 2)), ([("la", 1), ("l", 11)], ("l", 11)), ([("b", 1), ("la", 1), ("b", 2)], ("b", 1)),
        ]:
            bent = tuple(words[made[:2]] if made[:2] in keys else made for made in one)
            self.forked(one, bent, least)
            self.forked(one[11:] + one[:11], bent, least)
            self.forked(bent[11:13] + bent[:11] + bent[13:], one, least)

    def test_only_keys_that_both_have_fork(self):
        one = (edition("l", 1, "", "a"), edition("l", 2, "", "b"))
        self.assertEqual(joined(one[:1], one), one)
        self.assertEqual(joined(one[:1], (edition("b", 1), one[0])), (one[0], edition("b", 1)))
        self.forked((edition("m", 1), one[0]), (edition("l", 1, "", "b"), edition("k", 1)), ("l", 1))

    def test_unlike_in_one_thing_alone(self):
        base = edition("l", 1, "", "nil, p 0 1", "add 0 1 deep, sub 0 deep", "l.sub m", "l.add(x, y) = x; l.add(x, y) = y")
        for at, worth in [
            (3, (("l.nil", ()), ("l.p", (1, 0)))), (3, (("l.nil", ()), ("l.p", (0,)))), (3, (("l.nil", ()),)), (5, ()),
            (4, (("l.add", (1, 0), "deep"), ("l.sub", (0,), "deep"))), (4, (("l.add", (0, 1), "wide"), ("l.sub", (0,), "deep"))),
            (5, (("l.sub", "l"),)), (5, (("l.add", "m"),)), (6, base[6][:1]), (6, base[6][::-1]), (6, base[6] + base[6][:1]),
            (6, (base[6][0], (base[6][1][0], "x"))), (6, ((base[6][0][0], ("l.nil",)), base[6][1])),
            (6, ((("l.add", "y", "x"), "y"), base[6][1])), (6, ((("l.add", "x", "z"), "x"), base[6][1])),
        ]:
            self.forked((base,), (with_field(base, at, worth),), ("l", 1))
            self.forked((K_ONE, base), (with_field(base, at, worth), K_ONE), ("l", 1))
        self.forked(BASE + (edition("m", 1, "l 1"),), BASE + (edition("m", 1),), ("m", 1))

    def test_any_two_books_that_do_not_fork_are_one_book(self):
        dice = chance(181)
        unlike = 0
        for _ in range(60):
            book = some_book(dice, 4, 3)
            one, other = grown(dice, book, "l"), grown(dice, book, "mk")
            both, turned = joined(one, other), joined(other, one)
            unlike += both != one and both != other
            self.assertTrue(plainly.is_book(both) and plainly.is_book(turned))
            self.assertEqual(both[:len(one)], one)
            self.assertEqual(sorted(both), sorted(set(one) | set(other)))
            self.assertEqual(sorted(turned), sorted(both))
        self.assertGreater(unlike, 30)

    def test_books_by_chance_that_may_fork(self):
        dice = chance(182)
        found = [0, 0]
        for _ in range(150):
            book = some_book(dice, dice.randrange(3), 2)
            one, other = grown(dice, book, "lm"), grown(dice, book, dice.choice(["k", "mk", "kl"]))
            keys = sorted(made[:2] for made in one for then in other if made[:2] == then[:2] and made != then)
            told = plainly.caught(joined, one, other)
            found[not keys] += 1
            if keys:
                self.assertEqual(told, ("Forked", keys[0]))
            else:
                self.assertEqual(told, one + tuple(made for made in other if made not in one))
                self.assertTrue(is_book(told))
        self.assertGreater(min(found), 20)

    def test_houses_of_one_book(self):
        dice = chance(183)
        for _ in range(60):
            book = some_book(dice, 9, 3)
            houses = [part(book, tuple(made[:2] for made in dice.sample(book, 2))) for _ in range(2)]
            both = joined(*houses)
            self.assertTrue(is_book(both))
            self.assertEqual(set(both), set(houses[0]) | set(houses[1]))

    def test_what_is_handed_in_stays_as_it_was(self):
        one, other = list(ONE), list(OTHER)
        self.assertEqual(joined(tuple(one), tuple(other)), joined(tuple(one), tuple(other)))
        self.assertEqual((one, other), (list(ONE), list(OTHER)))


def grown(dice, book, lines):
    """The book, and behind it editions of these lines alone, by chance."""
    while len(book) < 9:
        made = let_by_rows(book, some_edition(dice, book, 3))
        if made[0] in lines:
            book += (made,)
        elif dice.random() < 0.05:
            return book
    return book


if __name__ == "__main__":
    unittest.main()
