"""Points 25 and 26, with 2 and 3: the marks on which a switch looks, and the cells of each of them."""

import copy
import random
import unittest

from flagroll.cells import cell_of, mark_cells, switch_marks, thing_in
from flagroll.conds import cond_holds

LETTERS = "abcdefghijklmnopqrstuvwxyz"
SIGNS = "0123456789" + LETTERS
SIXTY = [LETTERS[k // 26] + LETTERS[k % 26] for k in range(60)]
BARE = ([], [(0, 10007)])
OPEN = ("numbers", None, None)


def switch_of(*rules):
    """A switch with a rule for each list of conditions."""
    return ("salt", "off", [(list(conds), ("face", "on")) for conds in rules], BARE)


def reckoned_conds(groups, switch):
    """The conditions of point 25."""
    conds = [cond for rule in switch[2] for cond in rule[0]]
    named = [cond[0] for cond in conds if cond[1] in ("in", "out")]
    conds = [cond for cond in conds if cond[1] not in ("in", "out")]
    return conds + [cond for name, rows in groups if name in named for row in rows for cond in row]


def reckoned_cells(groups, switch, mark):
    conds = [cond for cond in reckoned_conds(groups, switch) if cond[0] == mark]
    told = [thing for cond in conds if cond[1] in ("is", "not") for thing in cond[2]]
    texts = {thing for thing in told if isinstance(thing, str)}
    begun = {""} | {thing for cond in conds if cond[1] == "begins" for thing in cond[2]}
    begins = set()
    for cond in conds:
        for thing in cond[2]:
            if isinstance(thing, int):
                begins |= {"is": {thing, thing + 1}, "not": {thing, thing + 1}, "least": {thing},
                           "most": {thing + 1}}[cond[1]]
    cells = [("none",)] + [("text", text) for text in sorted(texts)] + [("begins", text) for text in sorted(begun)]
    low = None
    for cut in sorted(begins):
        cells.append(("numbers", low, cut - 1))
        low = cut
    return cells + [("numbers", low, None)]


def lies_in(cells, cell, thing):
    """Whether a thing, or None, lies in a cell of these, as point 26 tells it."""
    if thing is None:
        return cell == ("none",)
    if isinstance(thing, int):
        return cell[0] == "numbers" and (cell[1] is None or cell[1] <= thing) and (cell[2] is None or thing <= cell[2])
    if cell[0] == "text":
        return cell[1] == thing
    if cell[0] != "begins" or not thing.startswith(cell[1]) or ("text", thing) in cells:
        return False
    longer = [other for other in cells if other[0] == "begins" and len(other[1]) > len(cell[1])]
    return not any(thing.startswith(other[1]) for other in longer)


def is_a_thing(thing):
    if type(thing) is int:
        return -(10 ** 9) <= thing <= 10 ** 9
    return type(thing) is str and len(thing) <= 12 and all(sign in SIGNS for sign in thing)


class CellsCase(unittest.TestCase):
    def assert_cells(self, told, groups, switch, mark):
        cells = mark_cells(groups, switch, mark)
        self.assertEqual(cells, told)
        self.assertIs(type(cells), list)
        for cell in cells:
            self.assertIs(type(cell), tuple)

    def assert_things_told(self, groups, switch, mark):
        """A thing that is told for a cell lies in it, by the program's own words and by those of the document."""
        cells = reckoned_cells(groups, switch, mark)
        for cell in cells:
            thing = thing_in(groups, switch, mark, cell)
            if cell == ("none",):
                self.assertIsNone(thing)
            else:
                self.assertTrue(is_a_thing(thing), (cell, thing))
            self.assertTrue(lies_in(cells, cell, thing), (cell, thing, cells))
            self.assertEqual(cell_of(groups, switch, mark, thing), cell)

    def assert_each_in_one(self, groups, switch, mark, things):
        cells = reckoned_cells(groups, switch, mark)
        for thing in things:
            lying = [cell for cell in cells if lies_in(cells, cell, thing)]
            self.assertEqual(len(lying), 1, (thing, lying))
            cell = cell_of(groups, switch, mark, thing)
            self.assertEqual(cell, lying[0], (thing, cells))
            self.assertIs(type(cell), tuple)

    def assert_alike(self, groups, switch, mark, things):
        """To each condition on the mark a thing is as the one that is told for its cell."""
        conds = [cond for cond in reckoned_conds(groups, switch) if cond[0] == mark]
        for thing in things:
            other = thing_in(groups, switch, mark, cell_of(groups, switch, mark, thing))
            for cond in conds:
                held = [cond_holds([], cond, [] if one is None else [(mark, one)]) for one in (thing, other)]
                self.assertEqual(held[0], held[1], (cond, thing, other))

    def assert_all(self, groups, switch, mark, things):
        self.assert_cells(reckoned_cells(groups, switch, mark), groups, switch, mark)
        self.assert_things_told(groups, switch, mark)
        self.assert_each_in_one(groups, switch, mark, things)
        self.assert_alike(groups, switch, mark, things)


class MarksTest(unittest.TestCase):
    GROUPS = [("staff", [[("mail", "begins", ["a"]), ("age", "least", [5])], [], [("land", "has", [])]]),
              ("guests", [[("zone", "is", [1])]]), ("none", []), ("all", [[]])]

    def assert_marks(self, told, *rules):
        marks = switch_marks(self.GROUPS, switch_of(*rules))
        self.assertEqual(marks, told)
        self.assertIs(type(marks), list)

    def test_no_rules_and_no_conditions(self):
        self.assert_marks([])
        self.assert_marks([], [])
        self.assert_marks([], [], [], [])
        self.assertEqual(switch_marks([], switch_of()), [])

    def test_each_word(self):
        for word, things in (("is", ["a"]), ("not", [1]), ("begins", ["a"]), ("least", [1]), ("most", [1]), ("has", []),
                             ("lacks", [])):
            self.assert_marks(["age"], [("age", word, things)])
            self.assert_marks(["age", "land"], [("land", word, things)], [("age", word, things)])

    def test_sorted_and_each_once(self):
        self.assert_marks(["a", "aa", "b", "ba", "z"], [("z", "has", []), ("b", "has", []), ("aa", "lacks", [])],
                          [("ba", "has", []), ("b", "is", ["a"]), ("a", "has", []), ("z", "has", [])],
                          [("b", "has", [])])

    def test_groups_that_are_named(self):
        for word in ("in", "out"):
            self.assert_marks(["age", "land", "mail"], [("staff", word, [])])
            self.assert_marks(["zone"], [("guests", word, [])])
            self.assert_marks([], [("none", word, []), ("all", word, [])])
            self.assert_marks(["age", "land", "mail", "zone"], [("guests", word, [])],
                              [("staff", "in", []), ("staff", "out", [])])
            self.assert_marks(["age", "body", "land", "mail"],
                              [("age", "has", []), ("staff", word, []), ("body", "has", [])])

    def test_a_mark_that_is_called_like_a_group(self):
        self.assert_marks(["guests"], [("guests", "has", [])])
        self.assert_marks(["guests", "zone"], [("guests", "in", []), ("guests", "has", [])])

    def test_many(self):
        rules = [[(name, "has", [])] for name in reversed(SIXTY)]
        self.assert_marks(SIXTY, *rules)


class WrittenOutTest(CellsCase):
    def test_a_mark_that_is_in_no_condition(self):
        groups = [("staff", [[("age", "is", ["a", 5])]])]
        for switch in (switch_of(), switch_of([]), switch_of([("land", "is", ["a", 7])])):
            self.assert_cells([("none",), ("begins", ""), OPEN], groups, switch, "age")
            self.assert_all(groups, switch, "age", [None, "", "a", "zz", "abcdefghijkl", 0, 5, -(10 ** 9), 10 ** 9])

    def test_has_and_lacks_tell_nothing(self):
        switch = switch_of([("age", "has", [])], [("age", "lacks", [])])
        self.assert_cells([("none",), ("begins", ""), OPEN], [], switch, "age")
        self.assert_all([], switch, "age", [None, "", "a", 0, 10 ** 9])

    def test_texts(self):
        switch = switch_of([("land", "is", ["nl", "be"]), ("age", "is", ["x"])],
                           [("land", "not", ["be", "", "a1", "9"])])
        self.assert_cells([("none",), ("text", ""), ("text", "9"), ("text", "a1"), ("text", "be"), ("text", "nl"),
                           ("begins", ""), OPEN], [], switch, "land")
        self.assert_all([], switch, "land", [None, "", "9", "99", "a1", "a", "a12", "be", "b", "bee", "nl", 9, 0])

    def test_beginnings(self):
        switch = switch_of([("mail", "begins", ["b", "ab"])], [("mail", "begins", ["a", "b", "abcdefgh"])])
        self.assert_cells([("none",), ("begins", ""), ("begins", "a"), ("begins", "ab"), ("begins", "abcdefgh"),
                           ("begins", "b"), OPEN], [], switch, "mail")
        self.assert_all([], switch, "mail", [None, "", "a", "aa", "ab", "abc", "abcdefg", "abcdefgh", "abcdefghi",
                                             "abcdefghijkl", "b", "ba", "bab", "c", 5])

    def test_texts_and_beginnings(self):
        switch = switch_of([("mail", "begins", ["a", "ab"]), ("mail", "is", ["a", "ab", "abc", "b", ""])])
        self.assert_cells([("none",), ("text", ""), ("text", "a"), ("text", "ab"), ("text", "abc"), ("text", "b"),
                           ("begins", ""), ("begins", "a"), ("begins", "ab"), OPEN], [], switch, "mail")
        self.assert_all([], switch, "mail", [None, "", "a", "aa", "ac", "ab", "aba", "abc", "abcd", "b", "bb", "c", 0])

    def test_numbers(self):
        switch = switch_of([("age", "is", [5])])
        self.assert_cells([("none",), ("begins", ""), ("numbers", None, 4), ("numbers", 5, 5), ("numbers", 6, None)],
                          [], switch, "age")
        switch = switch_of([("age", "not", [5, 7])])
        self.assert_cells([("none",), ("begins", ""), ("numbers", None, 4), ("numbers", 5, 5), ("numbers", 6, 6),
                           ("numbers", 7, 7), ("numbers", 8, None)], [], switch, "age")
        switch = switch_of([("age", "least", [18])])
        self.assert_cells([("none",), ("begins", ""), ("numbers", None, 17), ("numbers", 18, None)], [], switch, "age")
        switch = switch_of([("age", "most", [18])])
        self.assert_cells([("none",), ("begins", ""), ("numbers", None, 18), ("numbers", 19, None)], [], switch, "age")

    def test_numbers_next_to_one_another(self):
        switch = switch_of([("age", "is", [6, 5, 7])])
        self.assert_cells([("none",), ("begins", ""), ("numbers", None, 4), ("numbers", 5, 5), ("numbers", 6, 6),
                           ("numbers", 7, 7), ("numbers", 8, None)], [], switch, "age")
        switch = switch_of([("age", "least", [5]), ("age", "most", [4])])
        self.assert_cells([("none",), ("begins", ""), ("numbers", None, 4), ("numbers", 5, None)], [], switch, "age")
        switch = switch_of([("age", "is", [5]), ("age", "least", [6]), ("age", "most", [4])])
        self.assert_cells([("none",), ("begins", ""), ("numbers", None, 4), ("numbers", 5, 5), ("numbers", 6, None)],
                          [], switch, "age")

    def test_least_and_most_of_the_same_number(self):
        switch = switch_of([("age", "least", [5]), ("age", "most", [5])])
        self.assert_cells([("none",), ("begins", ""), ("numbers", None, 4), ("numbers", 5, 5), ("numbers", 6, None)],
                          [], switch, "age")
        self.assert_all([], switch, "age", [None, "", "5", 4, 5, 6, -(10 ** 9), 10 ** 9])

    def test_below_and_above_0(self):
        switch = switch_of([("age", "is", [0, -1]), ("age", "most", [-5])])
        self.assert_cells([("none",), ("begins", ""), ("numbers", None, -5), ("numbers", -4, -2), ("numbers", -1, -1),
                           ("numbers", 0, 0), ("numbers", 1, None)], [], switch, "age")
        self.assert_all([], switch, "age", list(range(-9, 5)) + [None, "0", "1"])

    def test_numbers_at_their_bounds(self):
        for word in ("is", "not", "least", "most"):
            for number in (-999999999, -999999998, 999999998, 999999999):
                switch = switch_of([("age", word, [number])])
                near = [number + step for step in (-1, 0, 1)] + [-(10 ** 9), 10 ** 9, 0]
                self.assert_all([], switch, "age", near)
        switch = switch_of([("age", "is", [-999999999, 999999999])])
        self.assert_cells([("none",), ("begins", ""), ("numbers", None, -(10 ** 9)),
                           ("numbers", -999999999, -999999999), ("numbers", -999999998, 999999998),
                           ("numbers", 999999999, 999999999),
                           ("numbers", 10 ** 9, None)], [], switch, "age")

    def test_texts_of_figures_are_no_numbers(self):
        switch = switch_of([("age", "is", ["5", 6]), ("age", "begins", ["7"])])
        self.assert_cells([("none",), ("text", "5"), ("begins", ""), ("begins", "7"), ("numbers", None, 5),
                           ("numbers", 6, 6), ("numbers", 7, None)], [], switch, "age")
        self.assert_all([], switch, "age", ["5", "6", "7", 5, 6, 7, "77", "55"])

    def test_conditions_of_groups(self):
        groups = [("staff", [[("age", "least", [65])], [("age", "is", ["old"]), ("mail", "begins", ["a"])]]),
                  ("guests", [[("age", "is", ["new"])]])]
        staff = [("none",), ("text", "old"), ("begins", ""), ("numbers", None, 64), ("numbers", 65, None)]
        for word in ("in", "out"):
            switch = switch_of([("staff", word, [])])
            self.assert_cells(staff, groups, switch, "age")
            self.assert_cells([("none",), ("begins", ""), ("begins", "a"), OPEN], groups, switch, "mail")
            self.assert_cells([("none",), ("begins", ""), OPEN], groups, switch, "staff")
            switch = switch_of([("age", "not", [64]), ("staff", word, [])],
                               [("guests", "in", []), ("guests", "out", [])])
            self.assert_cells([("none",), ("text", "new"), ("text", "old"), ("begins", ""), ("numbers", None, 63),
                               ("numbers", 64, 64), ("numbers", 65, None)], groups, switch, "age")
        self.assert_cells([("none",), ("begins", ""), OPEN], groups, switch_of([("land", "has", [])]), "age")

    def test_a_thing_twice(self):
        switch = switch_of([("age", "is", ["a", "a", 5, 5])], [("age", "not", [5, "a"]), ("age", "begins", ["a", "a"])])
        self.assert_cells([("none",), ("text", "a"), ("begins", ""), ("begins", "a"), ("numbers", None, 4),
                           ("numbers", 5, 5), ("numbers", 6, None)], [], switch, "age")


class TakenTextsTest(CellsCase):
    """Where all short texts of a cell lie in others."""

    def conds(self, word, things):
        return [("mail", word, things[k:k + 10]) for k in range(0, len(things), 10)]

    def test_the_beginning_itself_is_taken(self):
        for text in ("", "a", "z9", "abcdefgh", "00000000"):
            conds = [("mail", "is", [text])] + ([("mail", "begins", [text])] if text else [])
            self.assert_all([], switch_of(conds), "mail", ["", text, text + "a", text + "0", text + "zzzz"])

    def test_the_shortest_and_those_that_follow_are_taken(self):
        for ahead in ("", "a", "abcdefg"):
            for signs in ("a", "0", "ab", "01", "abcdefghijklmnopqr", LETTERS[::-1][:19]):
                texts = [ahead] + [ahead + sign for sign in signs]
                begun = [("mail", "begins", [ahead])] if ahead else []
                switch = switch_of(begun + self.conds("not", texts))
                self.assert_all([], switch, "mail", texts + [text + "a" for text in texts])

    def test_the_shortest_is_taken_and_others_begin_behind_it(self):
        for ahead in ("", "b", "bcdefgh"):
            for signs in ("a", "0", "0123456789", "abcdefghijklmnopqr"):
                begun = ([ahead] if ahead else []) + [ahead + sign for sign in signs]
                switch = switch_of(self.conds("begins", begun) + [("mail", "is", [ahead])])
                self.assert_all([], switch, "mail", begun + [text + "a" for text in begun])

    def test_all_texts_of_one_sign_are_taken(self):
        for ahead in ("", "a", "abcdefg"):
            texts = [ahead] + [ahead + sign for sign in SIGNS]
            begun = [("mail", "begins", [ahead])] if ahead else []
            self.assert_all([], switch_of(begun + self.conds("is", texts)), "mail", texts)

    def test_one_way_alone_is_left(self):
        for ahead in ("", "a", "abcdefg"):
            for left in ("0", "a", "m", "z", "9"):
                begun = [ahead + sign for sign in SIGNS if sign != left] + ([ahead] if ahead else [])
                switch = switch_of(self.conds("begins", begun) + [("mail", "is", [ahead, ahead + left])])
                self.assert_things_told([], switch, "mail")
                self.assertTrue(thing_in([], switch, "mail", ("begins", ahead)).startswith(ahead + left))

    def test_one_way_alone_is_left_further_on(self):
        ways = [sign for sign in SIGNS if sign != "k"]
        begun = ways + ["k" + sign for sign in ways]
        switch = switch_of(self.conds("begins", begun) + [("mail", "is", ["", "k", "kk"])])
        self.assert_things_told([], switch, "mail")
        self.assertTrue(thing_in([], switch, "mail", ("begins", "")).startswith("kk"))

    def test_long_ladders(self):
        texts = ["a" * many for many in range(9)]
        switch = switch_of(self.conds("is", texts), self.conds("begins", texts[1:]))
        self.assert_all([], switch, "mail", texts + ["a" * 9, "a" * 12, "b"] + [text + "b" for text in texts])


class AnySwitchTest(CellsCase):
    TEXTS = ["", "a", "b", "ab", "aa", "aab", "abc", "0", "01", "a0", "abcdefgh", "abcdefg"]
    NUMBERS = [-999999999, -2, -1, 0, 1, 2, 3, 17, 18, 19, 999999999]

    def random_cond(self, source):
        word = source.choice(["is", "not", "begins", "least", "most", "has", "lacks"])
        name = source.choice(["age", "age", "land"])
        if word in ("is", "not"):
            return (name, word, source.sample(self.TEXTS + self.NUMBERS, source.randint(1, 4)))
        if word == "begins":
            return (name, word, source.sample(self.TEXTS[1:], source.randint(1, 3)))
        return (name, word, [source.choice(self.NUMBERS)] if word in ("least", "most") else [])

    def random_rows(self, source):
        return [[self.random_cond(source) for cond in range(source.randint(0, 2))]
                for row in range(source.randint(0, 3))]

    def test_as_reckoned(self):
        source = random.Random(26)
        texts = self.TEXTS + [text + more for text in self.TEXTS for more in ("a", "b", "zz", "0")]
        numbers = {number + step for number in self.NUMBERS for step in (-1, 0, 1)} | {-(10 ** 9), 10 ** 9, 500}
        things = [None] + texts + sorted(numbers)
        for step in range(150):
            groups = [("staff", self.random_rows(source)), ("guests", self.random_rows(source))]
            rules = self.random_rows(source)
            for conds in rules:
                if source.random() < 0.4:
                    conds.append((source.choice(["staff", "guests"]), source.choice(["in", "out"]), []))
            switch = switch_of(*rules)
            self.assertEqual(switch_marks(groups, switch),
                             sorted({cond[0] for cond in reckoned_conds(groups, switch)}))
            for mark in ("age", "land", "other"):
                self.assert_all(groups, switch, mark, things)


class OwnTest(unittest.TestCase):
    GROUPS = [("staff", [[("age", "least", [65])], [("age", "is", ["old", "a", 7]), ("mail", "begins", ["a", "b"])]])]
    SWITCH = switch_of([("age", "not", ["a", 5]), ("staff", "in", [])], [("mail", "has", []), ("mail", "is", ["a"])])

    def told(self, groups, switch):
        told = [switch_marks(groups, switch)]
        for mark in ("age", "mail", "other"):
            cells = mark_cells(groups, switch, mark)
            told.append(cells)
            for cell in list(cells):
                told.append(cell_of(groups, switch, mark, thing_in(groups, switch, mark, cell)))
        return told

    def test_what_is_handed_in_stays_as_it_was(self):
        handed = copy.deepcopy((self.GROUPS, self.SWITCH))
        self.told(*handed)
        self.assertEqual(handed, (self.GROUPS, self.SWITCH))

    def test_what_was_told_is_the_askers_own(self):
        groups, switch = handed = copy.deepcopy((self.GROUPS, self.SWITCH))
        told = self.told(groups, switch)
        before = copy.deepcopy(told)
        for part in self.told(groups, switch):
            if isinstance(part, list):
                part.append("more")
                part[0] = "other"
        self.assertEqual(handed, (self.GROUPS, self.SWITCH))
        self.assertEqual(told, before)
        self.assertEqual(self.told(groups, switch), before)
        switch[2][0][0].clear()
        switch[2][1][0][1][2].append("new")
        groups[0][1].clear()
        self.assertEqual(told, before)

    def test_what_was_asked_ahead_changes_nothing(self):
        groups, switch = copy.deepcopy((self.GROUPS, self.SWITCH))
        self.told(groups, switch)
        groups[0][1].append([("zone", "most", [4])])
        self.assertEqual(switch_marks(groups, switch), ["age", "mail", "zone"])
        self.assertEqual(mark_cells(groups, switch, "zone")[2:], [("numbers", None, 4), ("numbers", 5, None)])
        switch[2][0][0].pop()
        self.assertEqual(switch_marks(groups, switch), ["age", "mail"])


if __name__ == "__main__":
    unittest.main()
