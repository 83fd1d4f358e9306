"""Points 27 to 29, with 2, 3 and 4: cases, rules that never decide, and how many get each face."""

import copy
import itertools
import random
import unittest

from flagroll.allots import allot_changed, allot_new
from flagroll.cases import face_counts, rule_decides, switch_cases
from flagroll.cells import cell_of, mark_cells, switch_marks, thing_in
from flagroll.errors import NoRule, RollError
from flagroll.switches import decide

PLACES = 10007
BARE = ([], [(0, PLACES)])
LETTERS = "abcdefghijklmnopqrstuvwxyz"
SIGNS = LETTERS + "0123456789"
SALTS = ["salt", "z", "checkout"]
SIXTY = [LETTERS[k // 26] + LETTERS[k % 26] for k in range(60)]

# Things that lie in many cells of the switches below, and at their edges.
THINGS = [None, "", "a", "ab", "abc", "b", "be", "nl", "zz", "old", "aaaaaaaaaaaa", "0",
          -(10 ** 9), -1, 0, 1, 4, 5, 6, 7, 17, 18, 19, 64, 65, 10 ** 9]


def reckoned_place(salt, number):
    f = b = 0
    for sign in salt:
        f = (f * 31 + ord(sign)) % 10006
        b = (b * 37 + ord(sign)) % 10007
    return ((1 + f) * number + b) % 10007


def numbers_by_place(salt):
    numbers = [None] * PLACES
    for number in range(PLACES):
        numbers[reckoned_place(salt, number)] = number
    return numbers


BY_PLACE = {salt: numbers_by_place(salt) for salt in SALTS}


def marks_of(named):
    return [(name, thing) for name, thing in named if thing is not None]


class CasesCase(unittest.TestCase):
    def assert_shape(self, case, cells_by_mark):
        self.assertIs(type(case), tuple)
        self.assertEqual(len(case), 5)
        cells, low, high, face, number = case
        self.assertIs(type(cells), tuple)
        self.assertEqual(len(cells), len(cells_by_mark))
        for cell, told in zip(cells, cells_by_mark):
            self.assertIn(cell, told)
        self.assertIs(type(low), int)
        self.assertIs(type(high), int)
        self.assertIs(type(number), int)
        self.assertIs(type(face), str)
        self.assertTrue(0 <= low < high <= PLACES, case)

    def assert_every_visitor_once(self, cases, cells_by_mark):
        """For each choice of cells, the cases' places are all of them, each once."""
        ranges = {}
        for cells, low, high, face, number in cases:
            ranges.setdefault(cells, []).append((low, high))
        self.assertEqual(sorted(ranges, key=repr), sorted(itertools.product(*cells_by_mark), key=repr))
        for cells, told in ranges.items():
            told = sorted(told)
            self.assertEqual([low for low, high in told], [0] + [high for low, high in told[:-1]], cells)
            self.assertEqual(told[-1][1], PLACES, cells)

    def decided_by(self, cases, groups, switch, visitor):
        names = switch_marks(groups, switch)
        marks = dict(visitor[1])
        cells = tuple(cell_of(groups, switch, name, marks.get(name)) for name in names)
        place = reckoned_place(switch[0], visitor[0])
        return [case[3:] for case in cases if case[0] == cells and case[1] <= place < case[2]]

    def assert_cases(self, cases, groups, switch, day, things=THINGS, tries=60):
        """That these are cases as point 27 tells of them."""
        self.assertIs(type(cases), list)
        names = switch_marks(groups, switch)
        cells_by_mark = [mark_cells(groups, switch, name) for name in names]
        for case in cases:
            self.assert_shape(case, cells_by_mark)
        self.assert_every_visitor_once(cases, cells_by_mark)
        numbers = BY_PLACE[switch[0]]
        for cells, low, high, face, number in cases:
            marks = marks_of([(name, thing_in(groups, switch, name, cell)) for name, cell in zip(names, cells)])
            for place in (low, high - 1):
                self.assertEqual(decide(groups, switch, day, (numbers[place], marks)), (face, number), (marks, place))
        source = random.Random(27)
        edges = sorted({place for case in cases for place in (case[1], case[2] - 1)})
        for step in range(tries):
            marks = marks_of([(name, source.choice(things)) for name in names + ["other"]])
            for place in (source.choice(edges), source.randrange(PLACES)):
                visitor = (numbers[place] + PLACES * source.choice([0, 0, 1, 90000]), marks)
                self.assertEqual(self.decided_by(cases, groups, switch, visitor),
                                 [decide(groups, switch, day, visitor)], visitor)

    def assert_decides(self, told, groups, switch, day, number):
        """That a rule is told as told, "yes" or "never", with what must come with it."""
        answered = rule_decides(groups, switch, day, number)
        self.assertIs(type(answered), tuple)
        self.assertEqual(len(answered), 2)
        self.assertEqual(answered[0], told, (switch, day, number))
        if told == "never":
            self.assert_cases(answered[1], groups, switch, day, tries=10)
            self.assertNotIn(number, [case[4] for case in answered[1]])
            return
        visitor = answered[1]
        self.assertIs(type(visitor), tuple)
        self.assert_visitor(visitor)
        self.assertEqual(decide(groups, switch, day, visitor)[1], number, (switch, day, visitor))

    def assert_visitor(self, visitor):
        number, marks = visitor
        self.assertIs(type(number), int)
        self.assertTrue(0 <= number <= 10 ** 9)
        self.assertIs(type(marks), list)
        self.assertEqual(len(dict(marks)), len(marks))
        for mark in marks:
            self.assertIs(type(mark), tuple)
            thing = mark[1]
            if type(thing) is int:
                self.assertLessEqual(abs(thing), 10 ** 9)
            else:
                self.assertIs(type(thing), str)
                self.assertTrue(len(thing) <= 12 and all(sign in SIGNS for sign in thing), thing)

    def assert_all_rules(self, told, groups, switch, day=0):
        """Told of each rule and of the rest, from the first on."""
        self.assertEqual(len(told), len(switch[2]) + 1)
        self.assert_cases(switch_cases(groups, switch, day), groups, switch, day)
        for number, word in enumerate(told):
            self.assert_decides(word, groups, switch, day, number)


def switch_of(*rules, allot=BARE, salt="salt"):
    return (salt, "off", [(list(conds), outcome) for conds, outcome in rules], allot)


ON = ("face", "on")
GROUPS = [("staff", [[("mail", "begins", ["a"])], [("age", "least", [65]), ("land", "not", ["be"])]]),
          ("none", []), ("all", [[]])]


class SwitchCasesTest(CasesCase):
    def test_without_rules_and_without_marks(self):
        self.assertEqual(switch_cases([], switch_of(), 0), [((), 0, PLACES, "off", 0)])
        self.assert_cases(switch_cases([], switch_of(), 0), [], switch_of(), 0)
        for switch in (switch_of(([], ON)), switch_of(([], ("share", "on", [(0, 500)]))), switch_of(([], ("lot",))),
                       switch_of(([], ("lot",)), allot=([("on", [(5, 9), (0, 2)])], [(2, 5), (9, PLACES)])),
                       switch_of(([("none", "in", [])], ON), ([("all", "in", [])], ("share", "on", [(0, 1)])))):
            cases = switch_cases(GROUPS, switch, 0)
            self.assertEqual({case[0] for case in cases}, {()})
            self.assert_cases(cases, GROUPS, switch, 0)

    def test_a_switch_without_rules_but_with_an_allotment(self):
        switch = switch_of(allot=allot_changed(allot_new(["on"]), [("on", 5000)]))
        self.assert_cases(switch_cases([], switch, 0), [], switch, 0)

    def test_shares_at_the_day(self):
        switch = switch_of(([], ("share", "on", [(2, 1), (4, 10006), (6, 10007), (8, 0)])),
                           ([("age", "least", [18])], ("share", "red", [(0, 5), (6, 700), (9, 10007)])))
        for day in range(11):
            self.assert_cases(switch_cases([], switch, day), [], switch, day)

    def test_marks_of_each_kind(self):
        switch = switch_of(([("age", "least", [18]), ("land", "is", ["nl", "be", 5])], ON),
                           ([("mail", "begins", ["a", "ab"]), ("age", "most", [64])], ("face", "red")),
                           ([("land", "lacks", [])], ("lot",)), ([("age", "not", [5, "old"])], ("face", "gold")),
                           allot=allot_changed(allot_new(["pink", "blue"]), [("pink", 40), ("blue", 80)]))
        self.assert_cases(switch_cases([], switch, 0), [], switch, 0, tries=600)

    def test_groups(self):
        switch = switch_of(([("staff", "in", [])], ON), ([("staff", "out", []), ("age", "has", [])], ("face", "red")),
                           ([("none", "out", [])], ("share", "blue", [(0, 300)])))
        self.assert_cases(switch_cases(GROUPS, switch, 0), GROUPS, switch, 0, tries=600)

    def test_a_split_allotment(self):
        allot = allot_new(["a", "b", "c"])
        source = random.Random(5)
        for step in range(30):
            allot = allot_changed(allot, [(face, source.randint(0, 3300)) for face in "abc"])
        switch = switch_of(([("age", "has", [])], ("lot",)), ([], ("share", "on", [(0, 5000)])), allot=allot)
        self.assert_cases(switch_cases([], switch, 0), [], switch, 0, tries=300)

    def test_many_cases(self):
        # Three cells to the sixth power, and two stretches: 1458.
        conds = [(name, "has", []) for name in SIXTY[:6]]
        switch = switch_of((conds, ON), *[([cond], ("share", "some", [(0, 77)])) for cond in conds])
        cases = switch_cases([], switch, 0)
        self.assert_cases(cases, [], switch, 0)
        self.assert_decides("yes", [], switch, 0, 0)
        self.assert_decides("yes", [], switch, 0, 6)
        self.assert_decides("yes", [], switch, 0, 7)

    def test_sixty_rules_and_many_things(self):
        things = [f"t{LETTERS[k]}" for k in range(10)] + list(range(10))
        rules = [([("age", "is", [things[k % 20]]), ("age", "not", [things[(k + 1) % 20]])],
                  ("share", "on", [(0, 150 * (k + 1))])) for k in range(60)]
        switch = switch_of(*rules)
        self.assert_cases(switch_cases([], switch, 0), [], switch, 0, THINGS + things)
        for number in (0, 19, 20, 59, 60):
            self.assert_decides("yes", [], switch, 0, number)


class NeverTest(CasesCase):
    def test_without_rules(self):
        self.assert_all_rules(["yes"], [], switch_of())

    def test_behind_a_face_for_all(self):
        self.assert_all_rules(["yes", "never"], [], switch_of(([], ON)))
        self.assert_all_rules(["yes", "never", "never", "never"], [], switch_of(
            ([], ON), ([("age", "has", [])], ON), ([], ("lot",))))

    def test_behind_one_that_holds_of_more(self):
        for first, then in ((("age", "least", [17]), ("age", "least", [18])),
                            (("age", "most", [19]), ("age", "most", [18])),
                            (("age", "not", ["a"]), ("age", "is", ["b"])),
                            (("age", "has", []), ("age", "is", ["b", 5])),
                            (("age", "begins", ["a"]), ("age", "begins", ["ab"])),
                            (("age", "begins", ["a"]), ("age", "is", ["a", "ab"])),
                            (("age", "is", ["a", 5]), ("age", "is", [5]))):
            self.assert_all_rules(["yes", "never", "yes"], [], switch_of(([first], ON), ([then], ON)))
            self.assert_all_rules(["yes", "yes", "yes"], [], switch_of(([then], ON), ([first], ON)))

    def test_several_together_leave_nobody(self):
        for conds in ([("age", "has", []), ("age", "lacks", [])], [("age", "is", ["a"]), ("age", "not", ["a"])],
                      [("staff", "in", []), ("staff", "out", [])]):
            rules = [([cond], ON) for cond in conds]
            self.assert_all_rules(["yes", "yes", "never"], GROUPS, switch_of(*rules))
            self.assert_all_rules(["yes", "yes", "never", "never"], GROUPS, switch_of(*rules, ([], ON)))
        rules = [([("age", "least", [5])], ON), ([("age", "most", [4])], ON), ([("age", "lacks", [])], ON),
                 ([("age", "begins", ["a"])], ON), ([("age", "has", [])], ON), ([], ON)]
        self.assert_all_rules(["yes"] * 5 + ["never", "never"], [], switch_of(*rules))

    def test_conditions_against_one_another(self):
        for conds in ([("age", "has", []), ("age", "lacks", [])], [("age", "is", ["a"]), ("age", "not", ["a"])],
                      [("age", "least", [5]), ("age", "most", [4])],
                      [("age", "begins", ["a"]), ("age", "begins", ["b"])],
                      [("age", "is", ["a"]), ("age", "begins", ["b"])],
                      [("age", "least", [5]), ("age", "begins", ["a"])],
                      [("age", "is", ["5"]), ("age", "least", [1])], [("age", "is", ["a"]), ("age", "is", ["b"])],
                      [("staff", "in", []), ("staff", "out", [])], [("none", "in", [])], [("all", "out", [])],
                      [("staff", "in", []), ("mail", "lacks", []), ("land", "is", ["be"])]):
            for outcome in (ON, ("share", "on", [(0, PLACES)]), ("lot",)):
                allot = ([("on", [(0, PLACES)])], [])
                self.assert_all_rules(["never", "yes"], GROUPS, switch_of((conds, outcome), allot=allot))

    def test_conditions_that_leave_one_thing(self):
        for conds in ([("age", "least", [5]), ("age", "most", [5])], [("age", "least", [4]), ("age", "most", [5]),
                                                                      ("age", "not", [4])],
                      [("age", "most", [-999999999]), ("age", "not", [-999999999])],
                      [("age", "least", [999999999]), ("age", "not", [999999999])],
                      [("age", "begins", ["abcdefgh"]), ("age", "not", ["abcdefgh"])],
                      [("staff", "in", []), ("age", "is", [70]), ("mail", "lacks", [])]):
            self.assert_all_rules(["yes", "yes"], GROUPS, switch_of((conds, ON)))

    def test_all_short_texts_are_taken(self):
        conds = [("age", "begins", ["a"]), ("age", "not", ["a", "a0", "a1", "a2", "a3"]),
                 ("age", "not", ["aa", "ab", "ac", "ad", "ae", "af"])]
        self.assert_all_rules(["yes", "yes"], [], switch_of((conds, ON)))

    def test_shares(self):
        switch = switch_of(([], ("share", "on", [(3, 50)])), ([], ("share", "red", [(2, 50), (5, 51), (7, 10007)])),
                           ([], ("share", "blue", [(7, 10007)])))
        for day, told in ((0, ["never", "never", "never", "yes"]), (2, ["never", "yes", "never", "yes"]),
                          (3, ["yes", "never", "never", "yes"]), (5, ["yes", "yes", "never", "yes"]),
                          (7, ["yes", "yes", "never", "never"])):
            self.assert_all_rules(told, [], switch, day)

    def test_shares_that_leave_one_place(self):
        for salt in SALTS:
            switch = switch_of(([], ("share", "on", [(0, 10006)])), ([], ("share", "red", [(0, 10007)])), ([], ON),
                               salt=salt)
            self.assert_all_rules(["yes", "yes", "never", "never"], [], switch)
            self.assertEqual(rule_decides([], switch, 0, 1), ("yes", (BY_PLACE[salt][10006], [])))

    def test_lots(self):
        one = ([("on", []), ("red", [(10006, 10007)])], [(0, 10006)])
        full = ([("on", [(5000, 10007), (0, 4000)]), ("red", [(4000, 5000)])], [])
        self.assert_all_rules(["never", "yes"], [], switch_of(([], ("lot",)), allot=allot_new(["on"])))
        self.assert_all_rules(["yes", "yes"], [], switch_of(([], ("lot",)), allot=one))
        self.assert_all_rules(["yes", "never"], [], switch_of(([], ("lot",)), allot=full))
        self.assert_all_rules(["yes", "never", "yes"], [], switch_of(([], ("lot",)), ([], ("lot",)), allot=one))
        share = ([], ("share", "gold", [(0, 10006)]))
        self.assert_all_rules(["yes", "yes", "never"], [], switch_of(share, ([], ("lot",)), allot=one))
        self.assert_all_rules(["yes", "yes", "yes", "never"], [], switch_of(([], ("lot",)), share, ([], ON), allot=(
            [("on", [(3, 10006)])], [(0, 3), (10006, PLACES)])))

    def test_a_rule_whose_face_is_the_rest(self):
        self.assert_all_rules(["yes", "never"], [], switch_of(([], ("face", "off"))))
        self.assert_all_rules(["yes", "yes"], [], switch_of(([("age", "has", [])], ("face", "off"))))


class NoRuleTest(CasesCase):
    def assert_no_rule(self, switch, number):
        with self.assertRaises(RollError) as caught:
            rule_decides([], switch, 0, number)
        self.assertIs(type(caught.exception), NoRule)

    def test_numbers_of_no_rule(self):
        for many in (0, 1, 2, 5, 60):
            switch = switch_of(*[([("age", "is", [k % 5])], ON) for k in range(many)])
            for number in (-1, -2, -many - 1, -(10 ** 9), many + 1, many + 2, 10 ** 9):
                self.assert_no_rule(switch, number)
            self.assert_decides("yes", [], switch, 0, 0)
            self.assert_decides("yes", [], switch, 0, many)


def reckoned_counts(groups, switch, day, marks):
    counts = {}
    for number in range(PLACES):
        face = decide(groups, switch, day, (number, marks))[0]
        counts[face] = counts.get(face, 0) + 1
    return sorted(counts.items())


class CountsTest(CasesCase):
    def assert_counts(self, told, groups, switch, day=0, marks=()):
        counts = face_counts(groups, switch, day, list(marks))
        self.assertEqual(counts, told)
        self.assertIs(type(counts), list)
        for pair in counts:
            self.assertIs(type(pair), tuple)

    def test_without_rules(self):
        self.assert_counts([("off", PLACES)], [], switch_of())
        self.assert_counts([("off", PLACES)], [], switch_of(allot=([("on", [(0, PLACES)])], [])), 5, [("age", 5)])

    def test_written_out(self):
        rules = [([("age", "has", [])], ("share", "zz", [(2, 10), (3, 0), (4, PLACES)])), ([], ("lot",)),
                 ([("land", "is", ["nl"])], ("face", "aa"))]
        switch = switch_of(*rules, allot=([("mm", [(5, 15)]), ("zz", [(20, 22)])], [(0, 5), (15, 20), (22, PLACES)]))
        self.assert_counts([("mm", 10), ("off", 9995), ("zz", 2)], [], switch, 2)
        self.assert_counts([("mm", 5), ("off", 9990), ("zz", 12)], [], switch, 2, [("age", "a")])
        self.assert_counts([("mm", 10), ("off", 9995), ("zz", 2)], [], switch, 3, [("age", "a")])
        self.assert_counts([("zz", PLACES)], [], switch, 4, [("age", "a")])
        self.assert_counts([("aa", 9995), ("mm", 10), ("zz", 2)], [], switch, 4, [("land", "nl")])

    def test_one_face_by_several_rules_and_as_the_rest(self):
        rules = [([], ("share", "off", [(0, 10)])), ([], ("share", "on", [(0, 15)])), ([], ("lot",))]
        switch = switch_of(*rules, allot=([("on", [(20, 30)])], [(0, 20), (30, PLACES)]))
        self.assert_counts([("off", PLACES - 15), ("on", 15)], [], switch)

    def test_sorted_by_the_faces(self):
        faces = ["b", "a", "zz", "z", "aa", "m"]
        switch = switch_of(([], ("lot",)), allot=allot_changed(allot_new(faces), [(face, 9) for face in faces]))
        told = [(face, 9) for face in sorted(faces)] + [("off", PLACES - 54)]
        self.assert_counts(sorted(told), [], switch)

    def test_groups(self):
        switch = switch_of(([("staff", "in", [])], ("share", "on", [(0, 700)])),
                           ([("none", "out", [])], ("face", "red")))
        self.assert_counts([("on", 700), ("red", 9307)], GROUPS, switch, 0, [("mail", "a1")])
        self.assert_counts([("red", PLACES)], GROUPS, switch, 0, [("mail", "b")])

    def test_number_by_number(self):
        source = random.Random(29)
        for step in range(12):
            switch, groups = random_switch(source)
            marks = marks_of([(name, source.choice(THINGS)) for name in ("age", "land", "mail")])
            day = source.randint(0, 6)
            told = reckoned_counts(groups, switch, day, marks)
            self.assert_counts(told, groups, switch, day, marks)
            self.assertEqual(sum(many for face, many in told), PLACES)


def random_switch(source):
    pool = [("age", "least", [18]), ("age", "most", [17]), ("age", "is", [5, "old"]), ("age", "lacks", []),
            ("land", "not", ["nl"]), ("land", "begins", ["b"]), ("land", "has", []), ("land", "is", ["be", 7]),
            ("staff", "in", []), ("staff", "out", []), ("all", "in", []), ("none", "out", [])]
    allot = allot_new(["red", "blue"])
    for change in range(2):
        allot = allot_changed(allot, [(face, source.choice([0, 100, 3000, 5003])) for face in ("red", "blue")])
    rules = []
    for number in range(source.randint(0, 5)):
        stages = [(source.randint(0, 3), source.choice([0, 50, 6000, 10007])), (5, source.choice([0, 3000, 9000]))]
        outcome = source.choice([("face", "on"), ("share", "some", stages), ("share", "red", stages), ("lot",)])
        rules.append((source.sample(pool, source.choice([0, 1, 1, 2])), outcome))
    return (("salt", "off", rules, allot), GROUPS)


class AnySwitchTest(CasesCase):
    def test_as_reckoned(self):
        source = random.Random(28)
        found = {"yes": 0, "never": 0}
        for step in range(120):
            switch, groups = random_switch(source)
            day = source.randint(0, 6)
            cases = switch_cases(groups, switch, day)
            self.assert_cases(cases, groups, switch, day, tries=40)
            deciding = {case[4] for case in cases}
            for number in range(len(switch[2]) + 1):
                told = "yes" if number in deciding else "never"
                found[told] += 1
                self.assert_decides(told, groups, switch, day, number)
        self.assertGreater(min(found.values()), 60)


class OwnTest(CasesCase):
    SWITCH = switch_of(([("age", "is", ["a", 5]), ("staff", "in", [])], ("share", "on", [(0, 7), (3, 9)])),
                       ([], ("lot",)), ([("age", "has", [])], ON), ([("age", "is", ["a"])], ON),
                       allot=([("on", [(5, 9), (0, 2)])], [(2, 5), (9, PLACES)]))

    def told(self, groups, switch, marks):
        return [switch_cases(groups, switch, 0), face_counts(groups, switch, 0, marks)] + [
            rule_decides(groups, switch, 0, number) for number in range(len(switch[2]) + 1)]

    def test_what_is_handed_in_stays_as_it_was(self):
        handed = copy.deepcopy((GROUPS, self.SWITCH, [("age", 5), ("mail", "ab")]))
        self.told(*handed)
        with self.assertRaises(NoRule):
            rule_decides(handed[0], handed[1], 0, 9)
        self.assertEqual(handed, (GROUPS, self.SWITCH, [("age", 5), ("mail", "ab")]))

    def test_what_was_told_is_the_askers_own(self):
        groups, switch, marks = handed = copy.deepcopy((GROUPS, self.SWITCH, [("age", 5), ("mail", "ab")]))
        told = self.told(*handed)
        before = copy.deepcopy(told)
        self.assertEqual([part[0] for part in told[2:]], ["yes", "yes", "yes", "never", "yes"])
        for part in self.told(*handed):
            lists = [part] if isinstance(part, list) else [part[1] if part[0] == "never" else part[1][1]]
            for one in lists:
                one.append("more")
                one[0] = "other"
        self.assertEqual(handed, (GROUPS, self.SWITCH, [("age", 5), ("mail", "ab")]))
        self.assertEqual(told, before)
        self.assertEqual(self.told(*handed), before)
        switch[2].clear()
        switch[3][0][0][1].clear()
        groups.clear()
        marks.clear()
        self.assertEqual(told, before)

    def test_what_was_asked_ahead_changes_nothing(self):
        groups, switch = copy.deepcopy((GROUPS, self.SWITCH))
        self.told(groups, switch, [])
        switch[2].insert(0, ([], ON))
        self.assertEqual(face_counts(groups, switch, 0, []), [("on", PLACES)])
        self.assert_decides("never", groups, switch, 0, 2)
        self.assert_cases(switch_cases(groups, switch, 0), groups, switch, 0)


if __name__ == "__main__":
    unittest.main()
