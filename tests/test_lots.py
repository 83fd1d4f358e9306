"""Points 5 to 7, with 2 and 3: salts, keys, places, and what parts two salts."""

import unittest

from flagroll.errors import NoSalt, RollError
from flagroll.lots import PLACES, lot_keys, number_for, place_of, salts_parted

LETTERS = "abcdefghijklmnopqrstuvwxyz"


def reckoned_keys(salt):
    f = 0
    b = 0
    for sign in salt:
        c = 97 + LETTERS.index(sign)
        f = (f * 31 + c) % 10006
        b = (b * 37 + c) % 10007
    return (1 + f, b)


def reckoned_place(salt, number):
    a, b = reckoned_keys(salt)
    return (a * number + b) % 10007


# One to twelve letters, the first and last letter among them.
SALTS = ["a", "z", "m", "az", "za", "fox", "blue", "salty", "beacon", "lantern", "aaaaaaaa", "zzzzzzzzz",
         "abcdefghij", "klmnopqrstu", "uvwxyzabcdef", "aaaaaaaaaaaa", "zzzzzzzzzzzz"]

# The least and greatest keys: a is 1 by ojm and 10006 by ojl, b is 0 by yvh and 10006 by yvg.
EDGE_SALTS = ["ojm", "ojl", "yvh", "yvg"]

DEEP = []
for depth in range(5000):
    DEEP = [DEEP]

NO_SALTS = [
    "", "abcdefghijklm", "zzzzzzzzzzzzz", "a" * 5000,
    "A", "Fox", "foX", "FOX",
    "0", "9", "fox1", "1fox",
    " ", " fox", "fox ", "fo x", "fox\t", "\u00a0",
    "\n", "fox\n", "\nfox", "fo\nx", "abcdefghijkl\n", "fox\r", "fox\r\n", "fox\x00",
    "\u00e9", "caf\u00e9", "\u00df", "\u0430", "\uff41", "\u00aa", "\u0131", "\U0001d41a", "\ud800",
    "`", "{", "fo`x", "fo{x", "fo-x", "fo_x", "fo.x", "@", "[",
    0, 1, 97, -1, 10 ** 9, 10 ** 5000, True, False, None,
    [], ["a"], ["fox"], ["f", "o", "x"], (), ("a",), ("fox",), ("f", "o", "x"), [["a"]], [None], DEEP,
]


def shown(thing):
    # Some of the things can't be written as a text at all, so they are told by their number in the list.
    return f"NO_SALTS[{[thing is other for other in NO_SALTS].index(True)}]"


class KeysTest(unittest.TestCase):
    def test_there_are_10007_places(self):
        self.assertEqual(PLACES, 10007)
        self.assertIs(type(PLACES), int)

    def test_keys_as_the_document_reckons_them(self):
        for salt in SALTS + EDGE_SALTS:
            self.assertEqual(lot_keys(salt), reckoned_keys(salt), salt)

    def test_keys_of_salts_of_each_length(self):
        for length in range(1, 13):
            for start in range(26):
                salt = "".join(LETTERS[(start + 7 * k + k * k) % 26] for k in range(length))
                self.assertEqual(lot_keys(salt), reckoned_keys(salt), salt)

    def test_keys_written_out(self):
        self.assertEqual(lot_keys("a"), (98, 97))
        self.assertEqual(lot_keys("z"), (123, 122))
        self.assertEqual(lot_keys("ab"), (1 + 97 * 31 + 98, 97 * 37 + 98))
        self.assertEqual(lot_keys("aza"), (7043, 7313))

    def test_least_and_greatest_keys(self):
        self.assertEqual(lot_keys("ojm")[0], 1)
        self.assertEqual(lot_keys("ojl")[0], 10006)
        self.assertEqual(lot_keys("yvh")[1], 0)
        self.assertEqual(lot_keys("yvg")[1], 10006)

    def test_keys_are_a_tuple_of_two_whole_numbers(self):
        keys = lot_keys("fox")
        self.assertIs(type(keys), tuple)
        self.assertEqual([type(key) for key in keys], [int, int])


class NoSaltTest(unittest.TestCase):
    def assert_refused(self, ask, told):
        with self.assertRaises(NoSalt, msg=told) as caught:
            ask()
        self.assertIs(type(caught.exception), NoSalt)
        self.assertIsInstance(caught.exception, RollError)

    def test_lot_keys_refuses(self):
        for thing in NO_SALTS:
            self.assert_refused(lambda: lot_keys(thing), shown(thing))

    def test_place_of_refuses(self):
        for thing in NO_SALTS:
            for number in (0, 1, 10 ** 9):
                self.assert_refused(lambda: place_of(thing, number), shown(thing))

    def test_number_for_refuses(self):
        for thing in NO_SALTS:
            for place in (0, 1, 10006):
                self.assert_refused(lambda: number_for(thing, place), shown(thing))

    def test_salts_parted_refuses_on_the_one_side(self):
        for thing in NO_SALTS:
            self.assert_refused(lambda: salts_parted(thing, "fox"), shown(thing))

    def test_salts_parted_refuses_on_the_other_side(self):
        for thing in NO_SALTS:
            self.assert_refused(lambda: salts_parted("fox", thing), shown(thing))

    def test_salts_parted_refuses_on_both_sides(self):
        for thing in NO_SALTS:
            self.assert_refused(lambda: salts_parted(thing, thing), shown(thing))

    def test_what_is_refused_stays_as_it_was(self):
        for ask in (lot_keys, lambda salt: place_of(salt, 1), lambda salt: number_for(salt, 1),
                    lambda salt: salts_parted(salt, "fox"), lambda salt: salts_parted("fox", salt)):
            thing = ["fox", ["a", 1], None]
            self.assert_refused(lambda: ask(thing), "a list")
            self.assertEqual(thing, ["fox", ["a", 1], None])

    def test_the_longest_and_shortest_salts_are_let_by(self):
        for salt in ("a", "z", "abcdefghijkl", "zzzzzzzzzzzz"):
            lot_keys(salt)
            place_of(salt, 0)
            number_for(salt, 0)
            salts_parted(salt, "fox")
            salts_parted("fox", salt)


class PlacesTest(unittest.TestCase):
    def test_places_of_numbers_up_to_the_bound(self):
        numbers = [0, 1, 2, 97, 5003, 10005, 10006, 10007, 10008, 20014, 123456789, 10 ** 9 - 1, 10 ** 9]
        numbers = numbers + [k * 7654321 for k in range(130)]
        for salt in SALTS + EDGE_SALTS:
            for number in numbers:
                self.assertEqual(place_of(salt, number), reckoned_place(salt, number), (salt, number))

    def test_places_written_out(self):
        self.assertEqual(place_of("a", 0), 97)
        self.assertEqual(place_of("a", 1), 195)
        self.assertEqual(place_of("a", 10007), 97)
        self.assertEqual(place_of("a", 10 ** 9), (98 * 10 ** 9 + 97) % 10007)

    def test_a_number_somewhat_beyond_the_bound_is_not_refused(self):
        self.assertEqual(place_of("fox", 10 ** 9 + 1), reckoned_place("fox", 10 ** 9 + 1))

    def test_a_place_is_a_whole_number(self):
        for number in (0, 1, 10006, 10 ** 9):
            self.assertIs(type(place_of("fox", number)), int)

    def test_each_place_has_its_one_number(self):
        for salt in ["a", "z", "fox", "lantern", "uvwxyzabcdef"] + EDGE_SALTS:
            number_at = {reckoned_place(salt, number): number for number in range(10007)}
            self.assertEqual(len(number_at), 10007, salt)
            for place in range(10007):
                self.assertEqual(number_for(salt, place), number_at[place], (salt, place))

    def test_the_told_number_has_the_place(self):
        for salt in SALTS + EDGE_SALTS:
            for place in list(range(0, 10007, 101)) + [1, 2, 10005, 10006]:
                number = number_for(salt, place)
                self.assertIs(type(number), int)
                self.assertTrue(0 <= number <= 10006)
                self.assertEqual(reckoned_place(salt, number), place)
                self.assertEqual(place_of(salt, number), place)


class PartedTest(unittest.TestCase):
    def assert_parted(self, one, other):
        for left, right in ((one, other), (other, one)):
            number = salts_parted(left, right)
            self.assertIs(type(number), int, (left, right))
            self.assertTrue(0 <= number <= 10006, (left, right))
            self.assertNotEqual(reckoned_place(left, number), reckoned_place(right, number), (left, right))

    def test_both_keys_alike(self):
        for one, other in (("aza", "doap"), ("azb", "doaq"), ("azf", "doau")):
            self.assertEqual(reckoned_keys(one), reckoned_keys(other))
            self.assertIsNone(salts_parted(one, other))
            self.assertIsNone(salts_parted(other, one))

    def test_a_salt_and_itself(self):
        for salt in SALTS + EDGE_SALTS:
            self.assertIsNone(salts_parted(salt, salt))

    def test_just_the_first_key_alike(self):
        for one, other in (("i", "eaa"), ("j", "eab"), ("n", "eaf")):
            self.assertEqual(reckoned_keys(one)[0], reckoned_keys(other)[0])
            self.assertNotEqual(reckoned_keys(one)[1], reckoned_keys(other)[1])
            self.assert_parted(one, other)

    def test_just_the_second_key_alike(self):
        for one, other in (("aa", "fmq"), ("ab", "fmr"), ("af", "fmv")):
            self.assertNotEqual(reckoned_keys(one)[0], reckoned_keys(other)[0])
            self.assertEqual(reckoned_keys(one)[1], reckoned_keys(other)[1])
            self.assert_parted(one, other)

    def test_neither_key_alike(self):
        for one in SALTS + EDGE_SALTS:
            for other in SALTS + EDGE_SALTS:
                if one != other:
                    self.assertNotEqual(reckoned_keys(one)[0], reckoned_keys(other)[0])
                    self.assertNotEqual(reckoned_keys(one)[1], reckoned_keys(other)[1])
                    self.assert_parted(one, other)


class SteadyTest(unittest.TestCase):
    def test_asked_again_in_between_others_the_answers_stay(self):
        def answers():
            return [(lot_keys(salt), place_of(salt, 12345), number_for(salt, 678)) for salt in SALTS]

        before = answers()
        for salt in reversed(SALTS):
            lot_keys(salt)
            salts_parted(salt, "fox")
        self.assertEqual(answers(), before)


if __name__ == "__main__":
    unittest.main()
