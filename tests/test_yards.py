import unittest

from aheadofholes.rule import is_book, let_by
from aheadofholes.yards import Yard
from tests.books import BOOK, K_ONE, L_ONE, L_TWO, M_ONE, edition, some_book, some_edition
from tests.plainly import caught
from tests.samples import chance, things


def yard_of(book):
    yard = Yard()
    for made in book:
        yard.publish(made)
    return yard


class Yards(unittest.TestCase):
    def test_a_new_yard(self):
        self.assertEqual((Yard().book(), len(Yard())), ((), 0))

    def test_what_is_published_is_out_by_its_key(self):
        yard = Yard()
        for number, made in enumerate(BOOK):
            self.assertEqual(yard.publish(made), made[:2])
            self.assertEqual(yard.book(), BOOK[:number + 1])
            self.assertEqual(len(yard), number + 1)
        self.assertIs(type(yard.book()), tuple)
        self.assertEqual(Yard().publish(edition=K_ONE), ("k", 1))

    def test_the_order_of_publishing(self):
        turned = (K_ONE, L_ONE, L_TWO, M_ONE)
        self.assertEqual(yard_of(turned).book(), turned)

    def test_refused_just_as_let_by_refuses_however_often(self):
        yard = yard_of(BOOK)
        for made in [
            None, L_ONE, edition("l", 4), edition("l", 3, "z 1"), edition("l", 3, "", "nil"), edition("l", 3, "", "", "", "k.say l"),
            edition("l", 3, "", "", "", "l.add l"), edition("l", 3, "", "", "do 0 deep", "", "l.do(x) = y"),
            edition("l", 3, "", "", "", "", "l.add(x, x) = x"), edition("l", 3, "", "", "", "", "l.add(l.nil, l.nil) = l.nil"),
            edition("l", 3, "", "", "", "", "l.add(l.s(l.nil), l.nil) = l.nil"),
            edition("k", 2, "l 1", "", "", "", "l.add(l.nil, k.kay) = l.nil"),
            edition("o", 1, "l 1, k 1", "", "", "", "k.say(l.nil) = l.nil"),
        ]:
            for _ in range(3):
                told = caught(yard.publish, made)
                self.assertIsNotNone(told)
                self.assertEqual(told, caught(let_by, BOOK, made))
                self.assertEqual((yard.book(), len(yard)), (BOOK, 6))

    def test_things_of_any_kind(self):
        yard = yard_of(BOOK[:2])
        for thing in things() + [list(M_ONE), BOOK]:
            self.assertEqual(caught(yard.publish, thing), ("NoEdition",))
        self.assertEqual(yard.book(), BOOK[:2])

    def test_what_is_refused_may_be_let_by_in_its_turn(self):
        yard = Yard()
        self.assertEqual(caught(yard.publish, L_TWO), ("NotNext", 2))
        self.assertEqual(caught(yard.publish, M_ONE), ("NotOut", ("l", 1)))
        self.assertEqual(yard.publish(L_ONE), ("l", 1))
        self.assertEqual(yard.publish(M_ONE), ("m", 1))
        self.assertEqual(yard.publish(L_TWO), ("l", 2))
        self.assertEqual(yard.book(), (L_ONE, M_ONE, L_TWO))

    def test_two_yards_hear_nothing_of_one_another(self):
        one, other = Yard(), Yard()
        one.publish(L_ONE)
        self.assertEqual((one.book(), other.book(), len(other)), ((L_ONE,), (), 0))
        self.assertEqual(caught(other.publish, M_ONE), ("NotOut", ("l", 1)))
        other.publish(K_ONE)
        self.assertEqual((one.book(), other.book()), ((L_ONE,), (K_ONE,)))
        self.assertEqual(other.publish(L_ONE), ("l", 1))

    def test_what_was_told_stays_as_it_was(self):
        yard = yard_of(BOOK[:3])
        told = yard.book()
        yard.publish(BOOK[3])
        self.assertEqual((told, yard.book()), (BOOK[:3], BOOK[:4]))

    def test_yards_made_by_chance(self):
        dice = chance(141)
        refused = 0
        for _ in range(60):
            yard = Yard()
            for _ in range(10):
                book = yard.book()
                made = some_edition(dice, book, 1)
                wanted = caught(let_by, book, made)
                told = caught(yard.publish, made)
                self.assertEqual(told, made[:2] if wanted is None else wanted)
                self.assertEqual(yard.book(), book if wanted else book + (made,))
                refused += wanted is not None
            self.assertTrue(is_book(yard.book()))
            self.assertEqual(len(yard), len(yard.book()))
        self.assertGreater(refused, 50)

    def test_a_book_that_was_told_is_published_again(self):
        book = some_book(chance(142), 10, 3)
        self.assertEqual(yard_of(book).book(), book)


if __name__ == "__main__":
    unittest.main()
