"""Points 14 to 16, with 2 and 3: conditions, groups, and which conditions are let by."""

import copy
import itertools
import random
import unittest

from flagroll.conds import cond_checked, cond_holds, conds_hold, in_group
from flagroll.errors import BadThings, NoGroup, NoWord, RollError

WORDS = ["is", "not", "begins", "least", "most", "has", "lacks", "in", "out"]
LETTERS = "abcdefghijklmnopqrstuvwxyz"
SIXTY = [LETTERS[k // 26] + LETTERS[k % 26] for k in range(60)]

DEEP = []
for depth in range(5000):
    DEEP = [DEEP]

DEEP_TUPLE = ()
for depth in range(5000):
    DEEP_TUPLE = (DEEP_TUPLE,)


class HoldsCase(unittest.TestCase):
    def assert_holds(self, told, word, things, marks, name="mark"):
        self.assertIs(cond_holds([], (name, word, things), marks), told, (name, word, things, marks))

    def assert_told(self, word, things, holding, failing):
        """Told of marks with each thing, ahead of and behind others; None is for the missing one."""
        for told, marked in ((True, holding), (False, failing)):
            for thing in marked:
                mark = [] if thing is None else [("mark", thing)]
                self.assert_holds(told, word, things, mark)
                self.assert_holds(told, word, things, mark + [("other", "zz"), ("third", 77)])
                self.assert_holds(told, word, things, [("other", "zz"), ("third", 77)] + mark)
                self.assert_holds(told, word, things, [("marks", "nl")] + mark + [("mar", 5)])


class WordsTest(HoldsCase):
    def test_is(self):
        self.assert_told("is", ["nl"], ["nl"], [None, "", "n", "nla", "be", 0, 1])
        self.assert_told("is", ["nl", "be", 5, ""], ["nl", "be", 5, ""], [None, "nlbe", "5", 0, -5, "b"])
        self.assert_told("is", [0], [0], [None, "", "0", 1])
        self.assert_told("is", [""], [""], [None, 0, "a"])
        self.assert_told("is", [-999999999, 999999999], [-999999999, 999999999], [None, 10 ** 9, -(10 ** 9), 999999998])

    def test_not(self):
        self.assert_told("not", ["nl"], [None, "", "n", "nla", "be", 0, 1], ["nl"])
        self.assert_told("not", ["nl", "be", 5, ""], [None, "nlbe", "5", 0, -5, "b"], ["nl", "be", 5, ""])
        self.assert_told("not", [0], [None, "", "0", 1], [0])
        self.assert_told("not", [""], [None, 0, "a"], [""])

    def test_a_text_is_never_alike_a_whole_number(self):
        self.assert_told("is", ["1"], ["1"], [1, None, "01", "10"])
        self.assert_told("is", [1], [1], ["1", None, "01", 10])
        self.assert_told("not", ["1"], [1, None], ["1"])
        self.assert_told("not", [1], ["1", None], [1])
        self.assert_told("is", ["1", 2], ["1", 2], [1, "2"])
        self.assert_told("begins", ["1"], ["1", "12"], [1, 12, None])

    def test_ten_things(self):
        things = ["a", 1, "bb", 22, "", 0, "12345678", -3, "c", 999999999]
        others = ["1", "22", "0", "b", -1, 3, "cc", "123456789", None]
        self.assert_told("is", things, things, others)
        self.assert_told("not", things, others, things)
        texts = ["a", "bb", "c1", "d", "e", "f", "g", "h", "i", "z9"]
        self.assert_told("begins", texts, texts + ["ax", "bbb", "c12", "z9z9z9z9z9z9"],
                         ["", "b", "c", "c2", "z", "xa", 9, None])

    def test_begins(self):
        self.assert_told("begins", ["a1"], ["a1", "a12", "a1a1a1a1a1a1"], [None, "", "a", "a2", "ba1", "1a", 1, 0])
        self.assert_told("begins", ["a", "b"], ["a", "b", "ab", "ba"], [None, "", "ca", "cb", 5])
        self.assert_told("begins", ["abcdefgh"], ["abcdefgh", "abcdefghi", "abcdefghijkl"],
                         ["abcdefg", "abcdefg0", None])
        self.assert_told("begins", ["ab", "a"], ["a", "ab", "ac"], ["b", ""])

    def test_least(self):
        self.assert_told("least", [18], [18, 19, 10 ** 9], [None, 17, 0, -18, -(10 ** 9), "18", "19", "", "zz"])
        self.assert_told("least", [0], [0, 1], [None, -1, "", "0"])
        self.assert_told("least", [-999999999], [-999999999, 0, 10 ** 9], [-(10 ** 9), None, "5"])
        self.assert_told("least", [999999999], [999999999, 10 ** 9], [999999998, None])

    def test_most(self):
        self.assert_told("most", [18], [18, 17, 0, -18, -(10 ** 9)], [None, 19, 10 ** 9, "18", "17", "", "a"])
        self.assert_told("most", [0], [0, -1], [None, 1, "", "0"])
        self.assert_told("most", [999999999], [999999999, 0, -(10 ** 9)], [10 ** 9, None, "5"])
        self.assert_told("most", [-999999999], [-999999999, -(10 ** 9)], [-999999998, None])

    def test_has_and_lacks(self):
        there = ["", "a", "abcdefghijkl", "0", 0, 1, -1, 10 ** 9]
        self.assert_told("has", [], there, [None])
        self.assert_told("lacks", [], [None], there)

    def test_no_marks(self):
        for word, things, told in (("is", ["a"], False), ("not", ["a"], True), ("begins", ["a"], False),
                                   ("least", [0], False), ("most", [0], False),
                                   ("has", [], False), ("lacks", [], True)):
            self.assert_holds(told, word, things, [])

    def test_the_mark_of_that_name_alone(self):
        marks = [("a", "nl"), ("b", 18), ("aaaaaaaa", "be")]
        self.assert_holds(True, "is", ["nl"], marks, "a")
        self.assert_holds(True, "is", ["be"], marks, "aaaaaaaa")
        self.assert_holds(False, "is", ["nl", "be"], marks, "b")
        self.assert_holds(False, "is", ["nl", "be"], marks, "aa")
        self.assert_holds(True, "least", [18], marks, "b")
        self.assert_holds(True, "lacks", [], marks, "c")

    def test_groups_that_are_there_change_nothing_of_marks(self):
        groups = [("mark", [])]
        self.assertIs(cond_holds(groups, ("mark", "has", []), [("mark", 1)]), True)
        self.assertIs(cond_holds(groups, ("mark", "is", ["a"]), [("mark", "a")]), True)


GROUPS = [
    ("staff", [[("mail", "begins", ["a1"])], [("age", "least", [18]), ("land", "is", ["nl", "be"])]]),
    ("nobody", []),
    ("every", [[]]),
    ("age", [[("age", "most", [9])]]),
    ("land", [[("age", "has", []), ("land", "lacks", [])], [], [("land", "is", ["zz"])]]),
    ("never", [[("age", "has", []), ("age", "lacks", [])]]),
]


class GroupsTest(HoldsCase):
    def assert_in(self, told, name, marks):
        self.assertIs(in_group(GROUPS, name, marks), told, (name, marks))
        self.assertIs(cond_holds(GROUPS, (name, "in", []), marks), told, (name, marks))
        self.assertIs(cond_holds(GROUPS, (name, "out", []), marks), not told, (name, marks))

    def test_one_of_several_rows(self):
        self.assert_in(True, "staff", [("mail", "a1b2")])
        self.assert_in(True, "staff", [("age", 18), ("land", "nl")])
        self.assert_in(True, "staff", [("land", "be"), ("age", 99), ("mail", "zz")])
        self.assert_in(True, "staff", [("land", "be"), ("age", 99), ("mail", "a1")])
        self.assert_in(False, "staff", [])
        self.assert_in(False, "staff", [("age", 18)])
        self.assert_in(False, "staff", [("land", "nl")])
        self.assert_in(False, "staff", [("age", 17), ("land", "nl")])
        self.assert_in(False, "staff", [("age", 18), ("land", "de"), ("mail", "b1")])

    def test_a_group_without_rows(self):
        for marks in ([], [("age", 18)], [("nobody", "a")]):
            self.assert_in(False, "nobody", marks)

    def test_a_row_without_conditions(self):
        for marks in ([], [("age", 18)], [("every", "a")]):
            self.assert_in(True, "every", marks)
            self.assert_in(True, "land", marks)

    def test_a_row_of_which_not_all_hold(self):
        for marks in ([], [("age", 18)], [("never", "a")]):
            self.assert_in(False, "never", marks)

    def test_a_name_that_is_a_marks_too(self):
        self.assert_in(True, "age", [("age", 9)])
        self.assert_in(False, "age", [("age", 10)])
        self.assert_in(False, "age", [])
        self.assertIs(cond_holds(GROUPS, ("age", "has", []), [("age", 10)]), True)
        self.assertIs(cond_holds(GROUPS, ("age", "lacks", []), []), True)

    def test_a_group_at_any_place(self):
        for turn in range(len(GROUPS)):
            turned = GROUPS[turn:] + GROUPS[:turn]
            for name, rows in GROUPS:
                for marks in ([], [("age", 5)], [("mail", "a1")], [("age", 50), ("land", "be")]):
                    self.assertEqual(in_group(turned, name, marks), in_group(GROUPS, name, marks), (name, marks))

    def test_sixty_groups_rows_and_conditions(self):
        row = [(name, "is", [name]) for name in SIXTY]
        marks = [(name, name) for name in SIXTY]
        rows = [[(name, "lacks", [])] for name in SIXTY[1:]] + [row]
        groups = [(name, []) for name in SIXTY[1:]] + [(SIXTY[0], rows)]
        self.assertIs(in_group(groups, SIXTY[0], marks), True)
        self.assertIs(in_group(groups, SIXTY[0], marks[:59] + [(SIXTY[59], "other")]), False)
        self.assertIs(in_group(groups, SIXTY[1], marks), False)


class AllHoldTest(HoldsCase):
    CONDS = [("age", "least", [18]), ("land", "not", ["nl"]), ("staff", "in", []), ("never", "out", [])]
    MARKS = [("age", 20), ("land", "be"), ("mail", "b")]

    def test_no_conditions_hold_of_all(self):
        self.assertIs(conds_hold([], [], []), True)
        self.assertIs(conds_hold(GROUPS, [], [("age", 1)]), True)

    def test_all_of_a_list(self):
        self.assertIs(conds_hold(GROUPS, self.CONDS, self.MARKS), True)
        for many in range(5):
            for some in itertools.combinations(self.CONDS, many):
                self.assertIs(conds_hold(GROUPS, list(some), self.MARKS), True)

    def test_one_that_fails_at_any_place(self):
        for failing in (("age", "most", [18]), ("mail", "lacks", []), ("nobody", "in", []), ("every", "out", [])):
            self.assertIs(conds_hold(GROUPS, [failing], self.MARKS), False)
            for place in range(5):
                conds = self.CONDS[:place] + [failing] + self.CONDS[place:]
                self.assertIs(conds_hold(GROUPS, conds, self.MARKS), False, conds)

    def test_a_condition_twice_and_two_against_one_another(self):
        twice = [("age", "has", []), ("age", "has", [])]
        self.assertIs(conds_hold([], twice, [("age", 0)]), True)
        self.assertIs(conds_hold([], [("age", "has", []), ("age", "lacks", [])], [("age", 0)]), False)
        self.assertIs(conds_hold(GROUPS, [("staff", "in", []), ("staff", "out", [])], []), False)


class AgainstEachOtherTest(HoldsCase):
    def test_words_that_are_one_anothers_contrary(self):
        source = random.Random(3)
        pool = ["", "a", "ab", "a1", "1", "12", 0, 1, 12, -1, 999999999]
        for step in range(500):
            things = source.sample(pool, source.randint(1, 10))
            marks = [("mark", source.choice(pool))] if source.random() < 0.8 else []
            held = cond_holds([], ("mark", "is", things), marks)
            self.assertIs(cond_holds([], ("mark", "not", things), marks), not held)
            self.assertIs(cond_holds([], ("mark", "has", []), marks), marks != [])
            self.assertIs(cond_holds([], ("mark", "lacks", []), marks), marks == [])
            kinds = [(type(thing), thing) for thing in things]
            self.assertIs(held, marks != [] and (type(marks[0][1]), marks[0][1]) in kinds)


NUMBERS = [0, 1, -1, 18, 999999998, 999999999, -999999998, -999999999]
FULL_TEXTS = ["a", "z", "0", "9", "a1", "007", "abcdefgh", "12345678", "zzzzzzz"]

# What is neither a text nor a whole number that any word goes with.
NO_TOLD_THINGS = [
    "abcdefghi", "123456789", "abcdefghijkl", "a" * 5000,
    "`", "{", "/", ":", "A", "aB", "a-b", ".a", "-1", " ", "a ", " a", "a\n", "\n", "abcdefg\n",
    "\u00e9", "\u00b2", "\u0661", "\ud800",
    10 ** 9, 10 ** 9 + 1, -(10 ** 9), 10 ** 5000, -(10 ** 5000),
    True, False, None, [], ["a"], [1], (), ("a",), (1,), [["a"]], DEEP, DEEP_TUPLE,
]

NO_WORDS = [
    "", "Is", "IS", "iss", "i", " is", "is ", "is\n", "nots", "begin", "beginss", "least ", "mosts", "hass", "lack",
    "inn", "on", "outs", "equals", "mark", "isnot", "is not", "\ud800", "a" * 5000,
    0, 1, -1, 10 ** 5000, True, False, None,
    [], ["is"], ["i", "s"], [["is"]], (), ("is",), ("i", "s"), WORDS, tuple(WORDS), DEEP, DEEP_TUPLE,
]


def numbered(things):
    # Some of the things can't be written as a text at all, so they are told by their numbers.
    return [(f"number {index}", thing) for index, thing in enumerate(things)]


class CheckedCase(unittest.TestCase):
    def assert_let_by(self, cond, names=()):
        self.assertIs(cond_checked(cond, list(names)), True, cond)

    def assert_refused(self, refusal, cond, names=(), told=""):
        with self.assertRaises(RollError, msg=told) as caught:
            cond_checked(cond, list(names))
        self.assertIs(type(caught.exception), refusal, told)


class LetByTest(CheckedCase):
    def test_one_thing(self):
        for word in ("is", "not"):
            for thing in NUMBERS + FULL_TEXTS + [""]:
                self.assert_let_by(("mark", word, [thing]))
        for thing in FULL_TEXTS:
            self.assert_let_by(("mark", "begins", [thing]))
        for word in ("least", "most"):
            for thing in NUMBERS:
                self.assert_let_by(("mark", word, [thing]))

    def test_one_to_ten_things(self):
        things = ["", "a", 1, "12345678", -999999999, "b", 999999999, "c", 0, "z"]
        for many in range(1, 11):
            self.assert_let_by(("mark", "is", things[:many]))
            self.assert_let_by(("mark", "not", things[:many]))
            self.assert_let_by(("mark", "begins", (FULL_TEXTS + ["b"])[:many]))

    def test_a_thing_twice(self):
        self.assert_let_by(("mark", "is", ["a", "a", 1, 1]))
        self.assert_let_by(("mark", "not", ["a", "a"]))
        self.assert_let_by(("mark", "begins", ["a", "a"]))

    def test_no_things(self):
        self.assert_let_by(("mark", "has", []))
        self.assert_let_by(("mark", "lacks", []))
        for word in ("in", "out"):
            self.assert_let_by(("mark", word, []), ["mark"])
            self.assert_let_by(("mark", word, []), ["a", "mark", "b"])
            self.assert_let_by(("mark", word, []), ["a", "b", "mark"])

    def test_sixty_names(self):
        for name in SIXTY:
            self.assert_let_by((name, "in", []), SIXTY)
            self.assert_let_by((name, "out", []), SIXTY)
        self.assert_refused(NoGroup, ("zz", "in", []), SIXTY)

    def test_names_matter_to_in_and_out_alone(self):
        for word, things in (("is", ["a"]), ("not", ["a"]), ("begins", ["a"]), ("least", [1]), ("most", [1]),
                             ("has", []), ("lacks", [])):
            for names in ([], ["other"], ["mark"]):
                self.assert_let_by(("mark", word, things), names)


class NoWordTest(CheckedCase):
    def test_words_that_are_none(self):
        for told, word in numbered(NO_WORDS):
            for things in ([], ["a"], [1], [None]):
                self.assert_refused(NoWord, ("mark", word, things), ["mark"], told)
                self.assert_refused(NoWord, ("mark", word, things), [], told)


class NoGroupTest(CheckedCase):
    def test_names_that_are_no_groups(self):
        for word in ("in", "out"):
            self.assert_refused(NoGroup, ("mark", word, []), [])
            self.assert_refused(NoGroup, ("mark", word, []), ["other"])
            self.assert_refused(NoGroup, ("mark", word, []), ["mar", "marks", "ark"])
            self.assert_refused(NoGroup, ("in", word, []), ["mark"])


class BadThingsTest(CheckedCase):
    def assert_bad(self, word, things, told=""):
        before = list(things)
        self.assert_refused(BadThings, ("mark", word, things), ["mark"], (word, told))
        self.assertTrue(len(things) == len(before) and all(map(lambda one, other: one is other, things, before)))

    def test_none_where_there_must_be_some(self):
        for word in ("is", "not", "begins", "least", "most"):
            self.assert_bad(word, [])

    def test_more_than_ten(self):
        for many in (11, 12, 60):
            for word in ("is", "not"):
                self.assert_bad(word, ["a"] * many)
                self.assert_bad(word, list(range(many)))
            self.assert_bad("begins", ["a"] * many)
            self.assert_bad("begins", SIXTY[:many])

    def test_more_than_one(self):
        for word in ("least", "most"):
            self.assert_bad(word, [1, 2])
            self.assert_bad(word, [1, 1])
            self.assert_bad(word, list(range(10)))

    def test_any_where_there_must_be_none(self):
        for word in ("has", "lacks", "in", "out"):
            for thing in ["a", "", 0, 1, True, False, None, [], (), DEEP, "mark"]:
                self.assert_bad(word, [thing])
            self.assert_bad(word, ["a", "b"])

    def test_things_of_another_kind_or_beyond_the_bounds(self):
        for told, thing in numbered(NO_TOLD_THINGS):
            for word in ("is", "not", "begins", "least", "most"):
                self.assert_bad(word, [thing], told)

    def test_one_bad_thing_at_any_place(self):
        for told, thing in numbered(NO_TOLD_THINGS):
            for place in range(4):
                for word in ("is", "not"):
                    things = ["a", 1, ""]
                    self.assert_bad(word, things[:place] + [thing] + things[place:], told)
                things = ["a", "b", "c"]
                self.assert_bad("begins", things[:place] + [thing] + things[place:], told)

    def test_begins_goes_with_full_texts_alone(self):
        for thing in [""] + NUMBERS:
            self.assert_bad("begins", [thing], thing)
            self.assert_bad("begins", ["a", thing], thing)
            self.assert_bad("begins", [thing, "a"], thing)

    def test_least_and_most_go_with_whole_numbers_alone(self):
        for word in ("least", "most"):
            for thing in FULL_TEXTS + [""]:
                self.assert_bad(word, [thing], thing)

    def test_the_bounds_of_marks_are_not_those_of_conditions(self):
        for thing in (10 ** 9, -(10 ** 9), "abcdefghi", "abcdefghijkl"):
            for word in ("is", "not"):
                self.assert_bad(word, [thing])


class OrderTest(CheckedCase):
    def test_no_word_ahead_of_the_others(self):
        self.assert_refused(NoWord, ("mark", "inn", [DEEP]), [])
        self.assert_refused(NoWord, ("mark", None, ["a"] * 11), [])
        self.assert_refused(NoWord, ("mark", ["in"], []), [])

    def test_no_group_ahead_of_bad_things(self):
        for word in ("in", "out"):
            self.assert_refused(NoGroup, ("mark", word, ["a"]), ["other"])
            self.assert_refused(NoGroup, ("mark", word, [None]), [])
            self.assert_refused(BadThings, ("mark", word, ["a"]), ["mark"])

    def test_bad_things_where_no_group_is_asked_for(self):
        for word in ("is", "not", "begins", "least", "most"):
            self.assert_refused(BadThings, ("mark", word, []), [])
        for word in ("has", "lacks"):
            self.assert_refused(BadThings, ("mark", word, ["a"]), [])


class OwnTest(unittest.TestCase):
    def test_what_is_handed_in_stays_as_it_was(self):
        groups = copy.deepcopy(GROUPS)
        marks = [("age", 20), ("land", "be"), ("mail", "a1")]
        conds = [("mail", "begins", ["a", "b"]), ("age", "is", [3, "c", 20]), ("staff", "in", []),
                 ("age", "least", [1])]
        names = ["staff", "age"]
        before = copy.deepcopy((groups, marks, conds, names))
        conds_hold(groups, conds, marks)
        for cond in conds:
            cond_holds(groups, cond, marks)
            cond_checked(cond, names)
        for name, rows in GROUPS:
            in_group(groups, name, marks)
        self.assertEqual((groups, marks, conds, names), before)

    def test_what_is_refused_changes_nothing(self):
        for cond, names in ((("a", "is", [1, [2], None]), ["b"]), (("a", "in", []), ["b"]), (("a", ["b"], [1]), ["b"])):
            before = copy.deepcopy((cond, names))
            with self.assertRaises(RollError):
                cond_checked(cond, names)
            self.assertEqual((cond, names), before)

    def test_what_was_asked_ahead_changes_nothing(self):
        marks = [("age", 20)]
        groups = [("staff", [[("age", "least", [18])]])]
        self.assertIs(in_group(groups, "staff", marks), True)
        marks[0] = ("age", 17)
        self.assertIs(in_group(groups, "staff", marks), False)
        groups[0][1].append([])
        self.assertIs(in_group(groups, "staff", marks), True)


if __name__ == "__main__":
    unittest.main()
