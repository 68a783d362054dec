"""What the rule as a whole promises: (a), (b) and (c) of promise 3, of what is let by and of what is refused."""
import unittest

from aheadofholes.houses import answers, part, who
from aheadofholes.meeting import meet
from aheadofholes.rule import fate, is_book
from aheadofholes.sights import lore_of, sight
from aheadofholes.strangerlooks import shows_stranger
from aheadofholes.strangers import stranger
from tests import plainly
from tests.books import edition, filled, plain_words, some_book, some_edition, with_rows
from tests.samples import chance


def books(seed, many, size, most_rows):
    dice = chance(seed)
    return [(dice, some_book(dice, size, most_rows)) for _ in range(many)]


class Promise(unittest.TestCase):
    def test_no_rows_of_two_strangers_meet(self):
        held = 0
        for _, book in books(171, 40, 14, 8):
            for at, one in enumerate(book):
                for other in book[:at]:
                    if plainly.are_strangers(book, one, other):
                        for head, _ in one[6]:
                            for second, _ in other[6]:
                                held += 1
                                self.assertIsNone(meet(head, second), (one, other))
        self.assertGreater(held, 500)

    def test_rows_of_two_that_see_one_another_meet_at_times(self):
        met = 0
        for _, book in books(172, 40, 14, 8):
            for at, one in enumerate(book):
                for other in sight(book, one):
                    met += any(meet(head, second) for head, _ in one[6] for second, _ in other[6])
        self.assertGreater(met, 20)

    def test_all_that_match_a_form_see_one_another_in_a_row(self):
        for dice, book in books(173, 40, 12, 8):
            for head in [row[0] for made in book for row in made[6]]:
                form = filled(dice, head, plain_words(book) + [("q.q",)])
                found = list(dict.fromkeys(key for key, _ in who(book, form)))
                seen = {made[:2]: plainly.keys_seen(book, made) for made in book}
                for at, key in enumerate(found):
                    self.assertTrue(all(ahead in seen[key] for ahead in found[:at]))

    def test_who_answers_in_a_house_answers_in_each_greater_one(self):
        answered = 0
        for dice, book in books(174, 60, 10, 8):
            house = part(book, tuple(made[:2] for made in dice.sample(book, 2)))
            greater = part(book, tuple(made[:2] for made in house + tuple(dice.sample(book, 2))))
            trees = plain_words(house)
            for head in [row[0] for made in book for row in made[6]]:
                names = {told[0] for made in house for told in made[3] + made[4]}
                form = filled(dice, head, trees or [("q.q",)])
                if names.issuperset(plain_names(form)) and answers(house, form):
                    answered += 1
                    self.assertEqual(answers(greater, form), answers(house, form))
                    self.assertEqual(answers(book, form), answers(house, form))
        self.assertGreater(answered, 50)

    def test_whoever_is_refused_as_holed_or_stray_would_meet_a_stranger(self):
        found = {}
        for dice, book in books(175, 60, 9, 6):
            made = some_edition(dice, book, 8)
            seen = sight(book, made)
            for number, row in enumerate(made[6]):
                word = fate(book, made, number)[0]
                if word in ("holed", "stray"):
                    found[word] = found.get(word, 0) + 1
                    other, form = stranger(book, made, number)
                    self.assertIs(shows_stranger(book, made, number, (other, form)), True)
                    there = seen + (with_rows(made, ""), other)
                    self.assertTrue(is_book(there))
                    self.assertTrue(plainly.are_strangers(there, made, other))
                    self.assertTrue(plainly.fits(row[0], form) and any(plainly.fits(head, form) for head, _ in other[6]))
        self.assertGreater(min(found.values()), 20)

    def test_whoever_is_refused_as_answered_would_take_the_answer(self):
        found = 0
        for dice, book in books(176, 60, 9, 6):
            made = some_edition(dice, book, 8)
            seen = sight(book, made)
            for number, (head, answer) in enumerate(made[6]):
                word, *told = fate(book, made, number)
                if word == "answered":
                    found += 1
                    self.assertEqual(answers(seen, head), tuple(told))
                    loose = seen + (made[:6] + (((head, answer),),),)
                    self.assertEqual(answers(loose, head), (made[:2], 0))
                    self.assertTrue(plainly.is_of(lore_of(book, made), head))
        self.assertGreater(found, 50)

    def test_strangers_may_answer_one_verb_side_by_side(self):
        book = (edition("l", 1, "", "nil, s 0", "f 0 deep", "", "l.f(x) = x"),
                edition("m", 1, "l 1", "em", "", "", "l.f(l.s(m.em)) = m.em"),
                edition("k", 1, "l 1", "kay 0", "", "", "l.f(l.s(k.kay(x))) = x; l.f(k.kay(x)) = x"))
        self.assertTrue(is_book(book))


def plain_names(form):
    return {form[0]}.union(*[plain_names(inner) for inner in form[1:]])


if __name__ == "__main__":
    unittest.main()
