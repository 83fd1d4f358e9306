"""Point 35, with 2, 3 and 4: copies, which learn of a book's deeds by letters and answer as the book did."""

import copy
import itertools
import random
import unittest

from flagroll.books import Book
from flagroll.copies import Copy
from flagroll.errors import BadLetter, NoSwitch, RollError

PLACES = 10007


def put(name, salt="salt", rest="off", faces=("on", "blue")):
    return ("put", name, salt, rest, list(faces))


def always(face="on"):
    return [([], ("face", face))]


# Each of the ten deeds; what is answered is another thing behind most of them.
DEEDS = [put("one"), ("rules", "one", always()), ("group", "staff", [[("age", "least", [18])], []]), ("stop", "one"),
         put("two", "other", "red", ["gold"]), ("needs", "two", [("one", "on")]),
         ("rules", "two", [([("staff", "in", [])], ("lot",)), ([], ("share", "blue", [(0, 5000)]))]),
         ("shares", "two", [("gold", 3000)]), ("go", "one"), ("hold", "some", "a", 5000, ["two"]),
         ("group", "staff", []), ("hold", "all", "b", 5000, None), ("free", "some"), ("needs", "two", []),
         ("drop", "one"), ("free", "all"), put("one", "salt", "white", []), ("shares", "two", [("gold", 2000)])]

VISITORS = [(number, marks) for number in range(0, PLACES, 1700) for marks in ([], [("age", 18)], [("age", 17)])]


def lists_in(thing):
    found = [thing] if isinstance(thing, list) else []
    if isinstance(thing, (list, tuple)):
        for part in thing:
            found = found + lists_in(part)
    return found


def spoil(thing):
    """Another content in each list within, at every depth."""
    for found in lists_in(thing):
        found.append("spoilt")
        found.reverse()


def book_of(deeds):
    book = Book()
    for deed in deeds:
        book.change(copy.deepcopy(deed))
    return book


class CopyCase(unittest.TestCase):
    BOOK = book_of(DEEDS)

    def letter(self, first, many):
        """A letter of the book's deeds, so many of them from number first on."""
        return (first, copy.deepcopy(DEEDS[first - 1:first - 1 + many]))

    def take(self, one, first, deeds):
        self.assertIsNone(one.take(first, deeds))

    def assert_at(self, moment, one):
        """That a copy names that moment, and answers just as the book did then."""
        self.assertEqual(one.moment(), moment)
        self.assertIs(type(one.moment()), int)
        for name in ("one", "two", "three", "staff", "some"):
            for visitor in VISITORS[::4]:
                self.assert_answer(one, moment, visitor, name)

    def assert_answer(self, one, moment, visitor, name):
        for day in (0, 5):
            try:
                told = self.BOOK.answer_at(day, visitor, name, moment)
            except NoSwitch:
                with self.assertRaises(RollError) as caught:
                    one.answer_now(day, visitor, name)
                self.assertIs(type(caught.exception), NoSwitch)
                continue
            answered = one.answer_now(day, visitor, name)
            self.assertIs(type(answered), tuple)
            self.assertEqual(answered, told + (moment,))


class OrderTest(CopyCase):
    def test_the_begin(self):
        self.assert_at(0, Copy())

    def test_one_by_one(self):
        one = Copy()
        for number in range(1, len(DEEDS) + 1):
            self.take(one, *self.letter(number, 1))
            self.assert_at(number, one)

    def test_all_in_one(self):
        one = Copy()
        self.take(one, *self.letter(1, len(DEEDS)))
        self.assert_at(len(DEEDS), one)

    def test_some_at_a_time(self):
        for many in range(2, 8):
            one = Copy()
            for first in range(1, len(DEEDS) + 1, many):
                self.take(one, *self.letter(first, many))
                self.assert_at(min(first + many - 1, len(DEEDS)), one)

    def test_straight_from_the_book(self):
        book, one = Book(), Copy()
        for number, deed in enumerate(DEEDS, start=1):
            book.change(deed)
            if number % 3 == 0:
                self.take(one, one.moment() + 1, book.deeds_from(one.moment() + 1))
                self.assert_at(number, one)
            self.assertEqual(one.moment(), number - number % 3)

    def test_answers_at_each_moment(self):
        one = Copy()
        for moment in range(len(DEEDS) + 1):
            if moment > 0:
                self.take(one, *self.letter(moment, 1))
            for visitor in VISITORS:
                for name in ("one", "two"):
                    self.assert_answer(one, moment, visitor, name)

    def test_written_out(self):
        one = Copy()
        self.take(one, 1, [put("one"), ("rules", "one", always())])
        self.assertEqual(one.answer_now(0, (5, []), "one"), ("on", ("rule", 0), 2))
        self.take(one, 3, [("stop", "one")])
        self.assertEqual(one.answer_now(0, (5, []), "one"), ("off", ("stopped",), 3))
        self.take(one, 5, [("drop", "one")])
        self.assertEqual(one.answer_now(0, (5, []), "one"), ("off", ("stopped",), 3))
        self.take(one, 4, [("go", "one")])
        self.assertEqual(one.moment(), 5)
        with self.assertRaises(NoSwitch):
            one.answer_now(0, (5, []), "one")


class TwiceAndLateTest(CopyCase):
    def test_the_same_letter_twice(self):
        one = Copy()
        for first in range(1, len(DEEDS) + 1, 3):
            for again in range(3):
                self.take(one, *self.letter(first, 3))
                self.assert_at(first + 2, one)

    def test_letters_with_deeds_that_it_has_and_such_that_it_lacks(self):
        one = Copy()
        for last in range(1, len(DEEDS) + 1):
            for first in (max(last - 4, 1), last, 1):
                self.take(one, first, self.letter(first, last - first + 1)[1])
                self.assert_at(last, one)

    def test_only_deeds_that_it_has(self):
        one = Copy()
        self.take(one, *self.letter(1, 9))
        for first in range(1, 10):
            for many in range(0, 11 - first):
                self.take(one, *self.letter(first, many))
                self.assert_at(9, one)

    def test_backwards(self):
        one = Copy()
        for number in range(len(DEEDS), 1, -1):
            self.take(one, *self.letter(number, 1))
            self.assert_at(0, one)
        self.take(one, *self.letter(1, 1))
        self.assert_at(len(DEEDS), one)

    def test_a_gap_that_is_filled_later(self):
        one = Copy()
        self.take(one, *self.letter(1, 3))
        self.take(one, *self.letter(6, 4))
        self.assert_at(3, one)
        self.take(one, *self.letter(4, 1))
        self.assert_at(4, one)
        self.take(one, *self.letter(5, 1))
        self.assert_at(9, one)

    def test_several_gaps(self):
        one = Copy()
        for first, many, moment in ((17, 2, 0), (12, 2, 0), (3, 2, 0), (8, 1, 0), (1, 1, 1), (9, 3, 1), (2, 1, 4),
                                    (5, 4, 13), (16, 1, 13), (14, 1, 14), (13, 3, 18)):
            self.take(one, *self.letter(first, many))
            self.assert_at(moment, one)

    def test_a_gap_filled_by_a_letter_that_reaches_over_it(self):
        for first, many in ((2, 8), (1, 18), (4, 2), (3, 3), (2, 4)):
            one = Copy()
            self.take(one, *self.letter(1, 3))
            self.take(one, *self.letter(6, 2))
            self.take(one, *self.letter(9, 1))
            self.take(one, first, self.letter(first, many)[1])
            last = first + many - 1
            self.assert_at({5: 7, 9: 9, 18: 18}[last], one)

    def test_what_is_kept_is_told_again(self):
        one = Copy()
        for again in range(3):
            self.take(one, *self.letter(3, 5))
            self.take(one, *self.letter(5, 6))
            self.assert_at(0, one)
        self.take(one, *self.letter(1, 2))
        self.assert_at(10, one)
        self.take(one, *self.letter(3, 5))
        self.assert_at(10, one)

    def test_every_order_of_five_letters(self):
        letters = [self.letter(1, 2), self.letter(3, 4), self.letter(6, 5), self.letter(11, 7), self.letter(18, 1)]
        for order in itertools.permutations(range(5)):
            one = Copy()
            for many in range(1, 6):
                self.take(one, *letters[order[many - 1]])
                known = {number for k in order[:many]
                         for number in range(letters[k][0], letters[k][0] + len(letters[k][1]))}
                self.assertEqual(one.moment(), min(set(range(1, 20)) - known) - 1)
            self.assert_at(18, one)

    def test_letters_drawn_by_fixed_numbers(self):
        source = random.Random(35)
        moments = set()
        for step in range(60):
            one = Copy()
            known = set()
            for letter in range(25):
                first = source.randint(1, len(DEEDS) + 3)
                deeds = copy.deepcopy(DEEDS[first - 1:first - 1 + source.choice([0, 1, 1, 2, 3])])
                self.take(one, first, deeds)
                known.update(range(first, first + len(deeds)))
                moment = min(set(range(1, len(DEEDS) + 2)) - known) - 1
                moments.add(moment)
                self.assertEqual(one.moment(), moment)
                if letter % 6 == 0:
                    self.assert_at(moment, one)
        self.assertGreater(len(moments), 12)


class EmptyLettersTest(CopyCase):
    def test_without_deeds(self):
        one = Copy()
        for first in (1, 2, 5, 300, 10 ** 9, 10 ** 5000):
            self.take(one, first, [])
            self.assert_at(0, one)
        self.take(one, *self.letter(1, 2))
        for first in (1, 2, 3, 4, 10 ** 9):
            self.take(one, first, [])
            self.assert_at(2, one)
        self.take(one, *self.letter(3, 1))
        self.assert_at(3, one)

    def test_far_ahead(self):
        one = Copy()
        for first in (300, 10 ** 9, 10 ** 5000):
            self.take(one, first, [("stop", "one")])
            self.assert_at(0, one)
        self.take(one, *self.letter(1, len(DEEDS)))
        self.assert_at(len(DEEDS), one)


class BadLetterTest(CopyCase):
    def test_a_first_below_one(self):
        for done, kept in ((0, 0), (0, 3), (4, 0), (4, 3)):
            one = Copy()
            self.take(one, *self.letter(1, done))
            self.take(one, *self.letter(done + 2, kept))
            for first in (0, -1, -2, -5, -(10 ** 9), -(10 ** 5000)):
                for deeds in ([], DEEDS[:1], DEEDS[:9], [("stop", "one")] * 9, DEEDS[done:done + 1]):
                    with self.assertRaises(RollError) as caught:
                        one.take(first, copy.deepcopy(deeds))
                    self.assertIs(type(caught.exception), BadLetter)
                    self.assert_at(done, one)
            self.take(one, *self.letter(done + 1, 1))
            self.assert_at(done + kept + 1, one)

    def test_no_such_switch(self):
        one = Copy()
        for name in ("one", "two", "nobody"):
            with self.assertRaises(NoSwitch):
                one.answer_now(0, (5, []), name)
        self.take(one, *self.letter(2, 10))
        for name in ("one", "two", "nobody"):
            with self.assertRaises(NoSwitch):
                one.answer_now(0, (5, []), name)


class OwnTest(CopyCase):
    def test_letters_are_not_changed(self):
        one = Copy()
        letters = [self.letter(5, 9), self.letter(1, 6), self.letter(3, 16)]
        for first, deeds in letters:
            one.take(first, deeds)
        with self.assertRaises(BadLetter):
            one.take(0, letters[0][1])
        one.answer_now(0, (5, []), "two")
        self.assertEqual(letters, [self.letter(5, 9), self.letter(1, 6), self.letter(3, 16)])

    def test_letters_that_are_changed_afterwards(self):
        one = Copy()
        for first, many, moment in ((7, 3, 0), (1, 2, 2), (4, 3, 2), (15, 4, 2), (3, 1, 9), (10, 5, 18)):
            letter = self.letter(first, many)
            self.take(one, *letter)
            spoil(letter)
            self.assert_at(moment, one)

    def test_letters_that_are_changed_much_later(self):
        one = Copy()
        letters = [self.letter(9, 10), self.letter(1, 9)]
        for letter in letters:
            self.take(one, *letter)
        spoil(letters)
        self.assert_at(len(DEEDS), one)

    def test_one_letter_for_two_copies(self):
        one, other = Copy(), Copy()
        letters = [self.letter(4, 15), self.letter(1, 3)]
        self.take(one, *letters[0])
        self.take(one, *letters[1])
        self.take(other, *letters[1])
        self.assert_at(len(DEEDS), one)
        self.assert_at(3, other)
        self.take(other, *letters[0])
        self.assert_at(len(DEEDS), other)

    def test_a_book_and_its_copy_share_nothing(self):
        book, one = book_of(DEEDS[:8]), Copy()
        self.take(one, 1, book.deeds_from(1))
        book.change(("stop", "two"))
        self.assert_at(8, one)
        self.take(one, *self.letter(9, 10))
        self.assertEqual(book.moment(), 9)
        self.assertEqual(book.deeds_from(9), [("stop", "two")])

    def test_visitors_are_not_changed_and_not_kept(self):
        one = Copy()
        self.take(one, 1, [put("one"), ("rules", "one", [([("age", "has", [])], ("face", "on"))])])
        visitor = (5, [("age", 18)])
        self.assertEqual(one.answer_now(0, visitor, "one"), ("on", ("rule", 0), 2))
        self.assertEqual(visitor, (5, [("age", 18)]))
        visitor[1].clear()
        self.assertEqual(one.answer_now(0, visitor, "one"), ("off", ("rest",), 2))

    def test_copies_side_by_side(self):
        copies = [Copy() for number in range(4)]
        for number, one in enumerate(copies):
            self.take(one, *self.letter(1, number * 5))
        for number, one in enumerate(copies):
            self.assert_at(number * 5, one)
        self.take(copies[0], *self.letter(3, 2))
        self.take(copies[1], *self.letter(1, 2))
        self.assert_at(0, copies[0])
        self.assert_at(5, copies[1])
        self.assert_at(0, Copy())


class ManyTest(unittest.TestCase):
    def test_three_hundred_deeds(self):
        deeds = [put("one"), ("rules", "one", [([], ("lot",))])]
        deeds = deeds + [("shares", "one", [("on", k * 37 % 5000), ("blue", k * 53 % 5000)]) for k in range(298)]
        book = Book()
        for deed in deeds:
            book.change(deed)
        one = Copy()
        for first in range(251, 0, -50):
            one.take(first, book.deeds_from(first)[:50])
            self.assertEqual(one.moment(), 0 if first > 1 else 300)
        for number in range(0, PLACES, 50):
            self.assertEqual(one.answer_now(0, (number, []), "one"), book.answer_at(0, (number, []), "one") + (300,))


if __name__ == "__main__":
    unittest.main()
