"""What the whole promises, (a) to (e) of promise 3, of books made by chance."""
import unittest

from aheadofholes.coming import may_come
from aheadofholes.desk import Desk
from aheadofholes.houses import answers, part, who
from aheadofholes.idles import idle, used
from aheadofholes.joining import joined
from aheadofholes.meeting import meet
from aheadofholes.neverlooks import shows_never
from aheadofholes.nevers import never
from aheadofholes.partings import parted
from aheadofholes.rule import fate, is_book
from aheadofholes.sights import lore_of, sight
from aheadofholes.strangerlooks import shows_stranger
from aheadofholes.strangers import stranger
from aheadofholes.texts import read_book, show_book, show_edition
from aheadofholes.treetexts import show_tree
from aheadofholes.working import worked
from aheadofholes.worklooks import shows_worked
from tests import plainly, reference
from tests.books import edition, filled, let_by_rows, plain_words, some_book, some_edition, with_rows
from tests.samples import chance
from tests.twins import changed, shows_parted


def books(seed, many, size, most_rows):
    dice = chance(seed)
    return [(dice, some_book(dice, size, most_rows)) for _ in range(many)]


class Promise(unittest.TestCase):
    def test_no_rows_of_two_strangers_meet(self):
        held = 0
        for _, book in books(171, 40, 14, 8):
            for at, one in enumerate(book):
                for other in book[:at]:
                    if plainly.are_strangers(book, one, other):
                        for head, _ in one[6]:
                            for second, _ in other[6]:
                                held += 1
                                self.assertIsNone(meet(head, second), (one, other))
        self.assertGreater(held, 500)

    def test_rows_of_two_that_see_one_another_meet_at_times(self):
        met = 0
        for _, book in books(172, 40, 14, 8):
            for at, one in enumerate(book):
                for other in sight(book, one):
                    met += any(meet(head, second) for head, _ in one[6] for second, _ in other[6])
        self.assertGreater(met, 20)

    def test_all_that_match_a_form_see_one_another_in_a_row(self):
        for dice, book in books(173, 40, 12, 8):
            for head in [row[0] for made in book for row in made[6]]:
                form = filled(dice, head, plain_words(book) + [("q.q",)])
                found = list(dict.fromkeys(key for key, _ in who(book, form)))
                seen = {made[:2]: plainly.keys_seen(book, made) for made in book}
                for at, key in enumerate(found):
                    self.assertTrue(all(ahead in seen[key] for ahead in found[:at]))

    def test_who_answers_in_a_house_answers_in_each_greater_one(self):
        answered = 0
        for dice, book in books(174, 60, 10, 8):
            house = part(book, tuple(made[:2] for made in dice.sample(book, 2)))
            greater = part(book, tuple(made[:2] for made in house + tuple(dice.sample(book, 2))))
            trees = plain_words(house)
            for head in [row[0] for made in book for row in made[6]]:
                names = {told[0] for made in house for told in made[3] + made[4]}
                form = filled(dice, head, trees or [("q.q",)])
                if names.issuperset(plain_names(form)) and answers(house, form):
                    answered += 1
                    self.assertEqual(answers(greater, form), answers(house, form))
                    self.assertEqual(answers(book, form), answers(house, form))
        self.assertGreater(answered, 50)

    def test_whoever_is_refused_as_holed_or_stray_would_meet_a_stranger(self):
        found = {}
        for dice, book in books(175, 60, 9, 6):
            made = some_edition(dice, book, 8)
            seen = sight(book, made)
            for number, row in enumerate(made[6]):
                word = fate(book, made, number)[0]
                if word in ("holed", "stray"):
                    found[word] = found.get(word, 0) + 1
                    other, form = stranger(book, made, number)
                    self.assertIs(shows_stranger(book, made, number, (other, form)), True)
                    there = seen + (with_rows(made, ""), other)
                    self.assertTrue(is_book(there))
                    self.assertTrue(plainly.are_strangers(there, made, other))
                    self.assertTrue(plainly.fits(row[0], form) and any(plainly.fits(head, form) for head, _ in other[6]))
        self.assertGreater(min(found.values()), 20)

    def test_whoever_is_refused_as_answered_would_take_the_answer(self):
        found = 0
        for dice, book in books(176, 60, 9, 6):
            made = some_edition(dice, book, 8)
            seen = sight(book, made)
            for number, (head, answer) in enumerate(made[6]):
                word, *told = fate(book, made, number)
                if word == "answered":
                    found += 1
                    self.assertEqual(answers(seen, head), tuple(told))
                    loose = seen + (made[:6] + (((head, answer),),),)
                    self.assertEqual(answers(loose, head), (made[:2], 0))
                    self.assertTrue(plainly.is_of(lore_of(book, made), head))
        self.assertGreater(found, 50)

    def test_any_two_books_that_do_not_fork_are_one_book(self):
        for dice, book in books(177, 40, 8, 6):
            houses = [part(book, tuple(made[:2] for made in dice.sample(book, 3))) for _ in range(2)]
            grown = [house + (("zone"[at:at + 2], 1, (), (), (), (), ()),) for at, house in enumerate(houses)]
            for one, other in [houses, houses[::-1], grown, grown[::-1]]:
                both = joined(one, other)
                self.assertTrue(is_book(both))
                self.assertEqual(set(both), set(one) | set(other))
                for form in forms_of(dice, one):
                    if answers(one, form):
                        self.assertEqual(answers(both, form), answers(one, form))

    def test_who_may_answer_from_now_on(self):
        """A settled form is answered by its row, whatever comes; a kept one by none that is out so far."""
        found = {"settled": 0, "kept": 0}
        for dice, book in books(178, 60, 6, 6):
            told = {form: may_come(book, form) for form in forms_of(dice, book)}
            more = book
            for _ in range(6):
                more += (let_by_rows(more, some_edition(dice, more, 6)),)
            for form, (word, *told_of) in told.items():
                found[word] += 1
                then = answers(more, form)
                if word == "settled":
                    self.assertEqual(then, tuple(told_of))
                elif then is not None:
                    self.assertNotIn(then[0], [made[:2] for made in book])
        self.assertGreater(min(found.values()), 100, found)

    def test_what_is_worked_out_in_a_house_is_worked_out_so_in_each_greater_one(self):
        found = {}
        for dice, book in books(179, 60, 10, 8):
            house = part(book, tuple(made[:2] for made in dice.sample(book, 2)))
            greater = part(book, tuple(made[:2] for made in house + tuple(dice.sample(book, 2))))
            for form in forms_of(dice, house):
                told = worked(house, form, 12)
                found[told[0]] = found.get(told[0], 0) + 1
                if told[0] != "none":
                    self.assertEqual(worked(greater, form, 12), told)
                    self.assertEqual(worked(book, form, 12), told)
                    self.assertTrue(shows_worked(greater, form, 12, told))
        self.assertGreater(min(found.values()), 20, found)

    def test_a_row_never_answers_just_where_it_is_idle(self):
        found = [0, 0]
        for dice, book in books(180, 50, 6, 10):
            more = book
            for _ in range(4):
                more += (let_by_rows(more, some_edition(dice, more, 6)),)
            for made in book:
                for number in range(len(made[6])):
                    told = used(more, made, number)
                    found[told is None] += 1
                    self.assertIs(told is None, number in idle(made))
                    if told is not None:
                        self.assertEqual(answers(more + told[:1], told[1]), (made[:2], number))
                    for form in forms_of(dice, (made,), more) if told is None else []:
                        self.assertNotEqual(answers(more, form), (made[:2], number))
        self.assertGreater(min(found), 50, found)

    def test_two_editions_stand_in_one_anothers_place_or_a_form_is_told(self):
        found = [0, 0]
        for dice, book in books(181, 300, 3, 4):
            one = let_by_rows(book, some_edition(dice, book, 8))
            other = let_by_rows(book, one[:6] + (changed(dice, one[6], one[6]),)) if one[6] else one
            told = parted(book, one, other)
            found[told is None] += 1
            if told is not None:
                self.assertTrue(shows_parted(book, one, other, told))
            for form in forms_of(dice, (one, other), book) if told is None else []:
                self.assertEqual([key for key, _ in who(book + (one,), form)][-1:], [key for key, _ in who(book + (other,), form)][-1:])
        self.assertGreater(min(found), 20, found)

    def test_of_two_heads_just_one_is_told(self):
        found = [0, 0]
        for _, book in books(182, 30, 6, 6):
            heads = [row[0] for made in book for row in made[6]]
            for one in heads[:12]:
                for other in heads[:12]:
                    both, paper = meet(one, other), never(one, other)
                    found[both is None] += 1
                    self.assertEqual(both, reference.meet(one, other))
                    self.assertIs(both is None, paper is not None)
                    self.assertIs(shows_never(one, other, paper), both is None)
        self.assertGreater(min(found), 200, found)

    def test_what_is_written_is_read_as_it_was_and_the_desk_answers_as_all_these_do(self):
        for dice, book in books(183, 15, 7, 6):
            self.assertEqual(read_book(show_book(book)), book)
            desk = Desk(show_book(book))
            for form in forms_of(dice, book):
                row, told = answers(book, form), worked(book, form, 9)
                self.assertEqual(desk.say(f"who {show_tree(form)}"), f"{row[0][0]} {row[0][1]} {row[1]}" if row else "-")
                self.assertEqual(desk.say(f"ask 9 {show_tree(form)}"), f"{told[0]} {show_tree(told[1])}")
            made = some_edition(dice, book, 8)
            for number in range(len(made[6])):
                self.assertEqual(desk.say(f"fate {number}\n{show_edition(made)}").split()[0], fate(book, made, number)[0])

    def test_strangers_may_answer_one_verb_side_by_side(self):
        book = (edition("l", 1, "", "nil, s 0", "f 0 deep", "", "l.f(x) = x"),
                edition("m", 1, "l 1", "em", "", "", "l.f(l.s(m.em)) = m.em"),
                edition("k", 1, "l 1", "kay 0", "", "", "l.f(l.s(k.kay(x))) = x; l.f(k.kay(x)) = x"))
        self.assertTrue(is_book(book))


def forms_of(dice, house, book=()):
    """Forms of the heads in a house, and of its verbs, on words without parts that it, or that book, tells."""
    trees = plain_words(book or house)
    heads = [row[0] for made in house for row in made[6]]
    heads += [(verb, *["x" for _ in order]) for made in house for verb, order, _ in made[4]]
    names = {told[0] for made in book or house for told in made[3] + made[4]}
    forms = [filled(dice, head, trees) for head in heads if trees]
    return [form for form in forms if plain_names(form) <= names]


def plain_names(form):
    return {form[0]}.union(*[plain_names(inner) for inner in form[1:]])


if __name__ == "__main__":
    unittest.main()
