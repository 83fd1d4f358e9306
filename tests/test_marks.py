"""Point 13, with 2 and 3: things and marks."""

import unittest

from flagroll.marks import is_thing, mark_of

LETTERS = "abcdefghijklmnopqrstuvwxyz"
FIGURES = "0123456789"

DEEP = []
for depth in range(5000):
    DEEP = [DEEP]

DEEP_TUPLE = ()
for depth in range(5000):
    DEEP_TUPLE = (DEEP_TUPLE,)

THINGS = ["", "a", "z", "0", "9", "a1", "1a", "007", "nl", "abcdefghijkl", "zzzzzzzzzzzz", "012345678901",
          "a0z9a0z9a0z9", 0, 1, -1, 18, 999999999, -999999999, 10 ** 9 - 1, 10 ** 9, -(10 ** 9 - 1), -(10 ** 9)]

NO_THINGS = [
    "abcdefghijklm", "0123456789012", "a0z9a0z9a0z9a", "a" * 5000,
    # The signs next to a, z, 0, 9 and the great letters.
    "`", "{", "/", ":", "@", "[", "A", "Z", "aB", "a`", "{a", "1/", ":1", "a-b", "a_b", "a.b", ".a", "-1", "+1",
    " ", " a", "a ", "a b", "\n", "a\n", "\na", "abcdefghijk\n", "a\t", "a\r", "a\x00", "\u00a0",
    "\u00e9", "\u00df", "\u0430", "\uff41", "\u00aa", "\u00b2", "\u0661", "\uff11", "\U0001d41a", "\ud800",
    10 ** 9 + 1, -(10 ** 9) - 1, 10 ** 5000, -(10 ** 5000),
    True, False, None,
    [], ["a"], [1], [["a"]], [None], (), ("a",), (1,), ("a", 1), DEEP, DEEP_TUPLE,
]


def shown(thing):
    # Some of the things can't be written as a text at all, so they are told by their number in the list.
    return f"NO_THINGS[{[thing is other for other in NO_THINGS].index(True)}]"


class ThingTest(unittest.TestCase):
    def test_things(self):
        for thing in THINGS:
            self.assertIs(is_thing(thing), True, repr(thing))

    def test_no_things(self):
        for thing in NO_THINGS:
            self.assertIs(is_thing(thing), False, shown(thing))

    def test_every_letter_and_figure_and_no_other_sign(self):
        for code in range(0x3000):
            sign = chr(code)
            for text in (sign, "a" + sign, sign + "0", "abcde" + sign + "56789a"):
                self.assertIs(is_thing(text), sign in LETTERS + FIGURES, repr(text))

    def test_texts_of_each_length(self):
        for length in range(0, 20):
            for sign in ("a", "z", "0", "9"):
                self.assertIs(is_thing(sign * length), length <= 12, (sign, length))

    def test_what_is_handed_in_stays_as_it_was(self):
        thing = ["a", 1, [None]]
        self.assertIs(is_thing(thing), False)
        self.assertEqual(thing, ["a", 1, [None]])


class MarkTest(unittest.TestCase):
    def test_a_mark_at_any_place_of_the_list(self):
        marks = [("land", "nl"), ("age", 18), ("mail", ""), ("score", 0), ("debt", -5)]
        for turn in range(len(marks)):
            turned = marks[turn:] + marks[:turn]
            for name, thing in marks:
                told = mark_of(turned, name)
                self.assertEqual(told, thing, (turned, name))
                self.assertIs(type(told), type(thing))

    def test_a_mark_that_is_missing(self):
        self.assertIsNone(mark_of([], "age"))
        self.assertIsNone(mark_of([("land", "nl")], "age"))
        # A thing that is called like the mark, and names of which one begins with the other.
        self.assertIsNone(mark_of([("land", "age"), ("ag", 1), ("ages", 2)], "age"))

    def test_names_of_one_and_eight_letters(self):
        marks = [("a", 1), ("aaaaaaaa", 2), ("aaaaaaa", 3), ("z", 4)]
        self.assertEqual([mark_of(marks, name) for name, thing in marks], [1, 2, 3, 4])

    def test_sixty_marks(self):
        marks = [(LETTERS[k // 26] + LETTERS[k % 26], k) for k in range(60)]
        self.assertEqual([mark_of(marks, name) for name, thing in marks], list(range(60)))
        self.assertIsNone(mark_of(marks, "zz"))

    def test_every_thing_is_told_as_it_stands(self):
        for thing in THINGS:
            told = mark_of([("other", "b"), ("mark", thing)], "mark")
            self.assertEqual(told, thing)
            self.assertIs(type(told), type(thing))

    def test_what_is_handed_in_stays_as_it_was(self):
        marks = [("land", "nl"), ("age", 18)]
        mark_of(marks, "age")
        mark_of(marks, "mail")
        self.assertEqual(marks, [("land", "nl"), ("age", 18)])


if __name__ == "__main__":
    unittest.main()
