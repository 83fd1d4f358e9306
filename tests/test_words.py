"""Point 17, with 2 and 3: conditions written as a line and read again."""

import copy
import random
import re
import unittest

from flagroll.conds import cond_checked
from flagroll.errors import NoLine, RollError
from flagroll.words import read_cond, show_cond

LETTERS = "abcdefghijklmnopqrstuvwxyz"

# The lines of point 17, and each word with things at their bounds.
WRITTEN = [
    ("land is .nl .be", ("land", "is", ["nl", "be"])),
    ("age least 18", ("age", "least", [18])),
    ("mail begins .a1", ("mail", "begins", ["a1"])),
    ("age has", ("age", "has", [])),
    ("staff out", ("staff", "out", [])),
    ("staff in", ("staff", "in", [])),
    ("age lacks", ("age", "lacks", [])),
    ("age most -18", ("age", "most", [-18])),
    ("age most 0", ("age", "most", [0])),
    ("age least -999999999", ("age", "least", [-999999999])),
    ("age least 999999999", ("age", "least", [999999999])),
    ("land not .", ("land", "not", [""])),
    ("land is . . .a .", ("land", "is", ["", "", "a", ""])),
    ("a is 0", ("a", "is", [0])),
    ("a is .0", ("a", "is", ["0"])),
    ("a is .007 7 .7 -7", ("a", "is", ["007", 7, "7", -7])),
    ("abcdefgh not .12345678 .abcdefgh", ("abcdefgh", "not", ["12345678", "abcdefgh"])),
    ("z begins .a .b .c .d .e .f .g .h .i .12345678",
     ("z", "begins", ["a", "b", "c", "d", "e", "f", "g", "h", "i", "12345678"])),
    ("z is . 1 -2 .3 4 .e 6 -999999999 8 .iiiiiiii",
     ("z", "is", ["", 1, -2, "3", 4, "e", 6, -999999999, 8, "iiiiiiii"])),
    # Names that are words, and texts that are words and names.
    ("is is .is", ("is", "is", ["is"])),
    ("in in", ("in", "in", [])),
    ("out not .not .has", ("out", "not", ["not", "has"])),
    ("has has", ("has", "has", [])),
]

NO_LINES = [
    # No name or no word.
    "", " ", "  ", "   ", "age", "age ", " age", " has", "has", "is", ".", "18", "agehas", "age\thas", "age.has",
    # Blanks: none, more than one, at either end, and other signs that part.
    " age has", "age has ", "age  has", "  age has", "age has  ", "age  least 18", "age least  18", "age least 18 ",
    " age least 18", "land is .nl  .be", "land is .nl .be ", "land is.nl", "land is .nl.be", "ageleast 18",
    "age least18",
    "age\tleast\t18", "age least\t18", "age\nhas", "age\u00a0has", "age least\u00a018", "age least\u200318",
    "age\x0bhas",
    # Line ends.
    "\n", "age has\n", "\nage has", "age has\r", "age has\r\n", "age\n has", "age has \n", "age least 18\n",
    "age least \n18",
    "land is .nl\n", "land is .nl\n .be", "land is .\n", "age has\x00", "age has\u2028", "age has\nage has",
    # Whole numbers that are written otherwise.
    "age least 007", "age least 07", "age least 00", "age least 000000000", "age least 018", "age least -0",
    "age least -00",
    "age least -07", "age least +1", "age least +0", "age least --1", "age least -", "age least 1-", "age least - 1",
    "age least 1000000000", "age least -1000000000", "age least 1234567890", "age least 0123456789", "age least 1_0",
    "age least 1.0", "age least 1e3", "age least 0x1", "age least 1,000", "age least \u0661", "age least \u00b2",
    "age least \uff11", "age least 1\u0661", "age least \u22121", "age least " + "9" * 5000, "age least -" + "9" * 5000,
    "age is 007", "age is -0", "age is +1", "age is 1000000000", "age is -1000000000", "age is 1 -0", "age is 00 1",
    "age is .a 01", "age not 1 2 3 0123456789",
    # Texts that are no such: nine signs, no point, other signs.
    "land is .abcdefghi", "land is .123456789", "land is .nl .abcdefghi", "land is ." + "a" * 5000, "land is nl",
    "land is .nl be", "land is nl .be", "land is ..", "land is ..nl", "land is .n.l", "land is .nl.", "land is .NL",
    "land is .nL", "land is .n-l", "land is .-1", "land is .n_l", "land is .`", "land is .{", "land is ./",
    "land is .:",
    "land is .\u00e9", "land is .\u00df", "land is .\u0661", "land is .\ud800", "land is 'nl'", "land is True",
    "land is None",
    "mail begins a1", "mail begins .abcdefghi",
    # Words that are none.
    "age Is .a", "age IS .a", "age iss .a", "age equals .a", "age .is .a", "age 18", "age .a", "age = 18", "age lack",
    "age hass", "age is_not .a", "age is not .a", "age least least 18", "is .nl", "land .nl .be", "age none",
    "staff on",
    # Things that don't go with the word.
    "land is", "land not", "land begins", "age least", "age most", "mail begins .", "mail begins .a .", "mail begins 1",
    "mail begins .a 1", "age least .18", "age most .", "age least 1 2", "age most 1 1", "age has 1",
    "age has .", "age lacks .a",
    "staff in .a", "staff out 1", "staff in staff", "age has has",
    "z is .a .b .c .d .e .f .g .h .i .j .k", "z not 1 2 3 4 5 6 7 8 9 10 11",
    "z begins" + " .a" * 11, "z is" + " ." * 11,
    "z is" + " .a" * 5000,
    # Names that are none.
    "abcdefghi has", "abcdefghi is .a", "abcdefghi in", "abcdefghij least 18", "Age has", "aGe has", "AGE has",
    "age1 has",
    "1 has", "0age has", ".age has", "ag-e has", "ag_e has", "a.b has", "`a has", "a{ has", "\u00e9 has", "\u00df in",
    "\uff41 has", "\u00aa in", "Staff in", "staff1 out", "staff! in", "\ud800 has", "a" * 5000 + " has",
]

THING = r"(?:\.[a-z0-9]{0,8}|0|-?[1-9][0-9]{0,8})"
LINE = re.compile(
    r"[a-z]{1,8} (?:(?:is|not)(?: " + THING + r"){1,10}"
    r"|begins(?: \.[a-z0-9]{1,8}){1,10}"
    r"|(?:least|most) (?:0|-?[1-9][0-9]{0,8})"
    r"|has|lacks|in|out)")


def made_name(source):
    return "".join(source.choice(LETTERS) for k in range(source.randint(1, 8)))


def made_text(source, least):
    return "".join(source.choice(LETTERS + "0123456789") for k in range(source.randint(least, 8)))


def made_number(source):
    figures = source.randint(1, 9)
    return source.randint(-(10 ** figures - 1), 10 ** figures - 1)


def made_things(source, word):
    if word in ("is", "not"):
        return [source.choice([made_text(source, 0), made_number(source)]) for k in range(source.randint(1, 10))]
    if word == "begins":
        return [made_text(source, 1) for k in range(source.randint(1, 10))]
    return [made_number(source)] if word in ("least", "most") else []


def made_conds(count):
    source = random.Random(17)
    words = ["is", "not", "begins", "least", "most", "has", "lacks", "in", "out"]
    conds = []
    for step in range(count):
        word = words[step % 9]
        conds.append((made_name(source), word, made_things(source, word)))
    return conds


def written(cond):
    things = ["." + thing if isinstance(thing, str) else "%d" % thing for thing in cond[2]]
    return " ".join([cond[0], cond[1]] + things)


class WordsCase(unittest.TestCase):
    def assert_read(self, line, cond):
        told = read_cond(line)
        self.assertEqual(told, cond, line)
        self.assertEqual([type(part) for part in told], [str, str, list], line)
        self.assertIs(type(told), tuple)
        self.assertEqual([type(thing) for thing in told[2]], [type(thing) for thing in cond[2]], line)

    def assert_refused(self, line):
        with self.assertRaises(RollError, msg=repr(line[:80])) as caught:
            read_cond(line)
        self.assertIs(type(caught.exception), NoLine, repr(line[:80]))


class ShownTest(WordsCase):
    def test_written_out(self):
        for line, cond in WRITTEN:
            self.assertEqual(show_cond(cond), line)
            self.assertIs(type(show_cond(cond)), str)

    def test_whole_numbers_of_one_to_nine_figures(self):
        for figures in range(1, 10):
            for number in (10 ** (figures - 1), 10 ** figures - 1):
                self.assertEqual(show_cond(("age", "least", [number])), "age least %d" % number)
                self.assertEqual(show_cond(("age", "least", [-number])), "age least -%d" % number)

    def test_made_ones(self):
        for cond in made_conds(900):
            self.assertEqual(show_cond(cond), written(cond))


class ReadTest(WordsCase):
    def test_written_out(self):
        for line, cond in WRITTEN:
            self.assert_read(line, cond)

    def test_whole_numbers_of_one_to_nine_figures(self):
        for figures in range(1, 10):
            for number in (10 ** (figures - 1), 10 ** figures - 1):
                self.assert_read("age most %d" % number, ("age", "most", [number]))
                self.assert_read("age is -%d .a" % number, ("age", "is", [-number, "a"]))

    def test_what_is_written_is_read_again(self):
        for cond in [cond for line, cond in WRITTEN] + made_conds(900):
            self.assertIs(cond_checked(cond, [cond[0]]), True)
            self.assert_read(show_cond(cond), cond)

    def test_any_name_for_a_groups(self):
        for name in ("a", "z", "staff", "abcdefgh", "zzzzzzzz", "in", "out", "is"):
            for word in ("in", "out"):
                self.assert_read(f"{name} {word}", (name, word, []))


class RefusedTest(WordsCase):
    def test_lines_that_write_no_condition(self):
        for line in NO_LINES:
            self.assert_refused(line)

    def test_any_sign_put_in_or_in_the_place_of_another(self):
        signs = "az09.- +_:/`{AZ\n\t\r\x00\u00e9\u0661\uff11\u00a0\u2028"
        asked = refused = 0
        for line, cond in WRITTEN:
            for place in range(len(line) + 1):
                lines = [line[:place] + line[place + 1:], line[:place]]
                lines += [line[:place] + sign + line[place:] for sign in signs]
                lines += [line[:place] + sign + line[place + 1:] for sign in signs]
                for changed in lines:
                    asked += 1
                    if LINE.fullmatch(changed):
                        self.assertEqual(show_cond(read_cond(changed)), changed)
                    else:
                        refused += 1
                        self.assert_refused(changed)
        self.assertTrue(1000 < refused < asked - 1000)

    def test_parts_put_together_in_any_order(self):
        source = random.Random(5)
        parts = ["age", "land", "is", "not", "begins", "least", "most", "has", "lacks", "in", "out", ".", ".a",
                 ".abcdefgh",
                 ".abcdefghi", "0", "-0", "00", "1", "-1", "999999999", "1000000000", "", "nl"]
        read = 0
        for step in range(20000):
            line = " ".join(source.choice(parts) for k in range(source.randint(1, 5)))
            if LINE.fullmatch(line):
                read += 1
                self.assertEqual(show_cond(read_cond(line)), line)
            else:
                self.assert_refused(line)
        self.assertGreater(read, 100)


class OwnTest(WordsCase):
    def test_what_is_handed_in_stays_as_it_was(self):
        for line, cond in WRITTEN:
            handed = copy.deepcopy(cond)
            show_cond(handed)
            self.assertEqual(handed, cond)

    def test_what_was_told_is_the_askers_own(self):
        for line, cond in WRITTEN:
            told = read_cond(line)
            told[2].append("more")
            self.assert_read(line, cond)
            again = read_cond(line)
            read_cond("age has")
            self.assertEqual(again, cond)


if __name__ == "__main__":
    unittest.main()
