"""Points 18 to 21, with 2, 3 and 4: stages, switches that are let by, and what a switch decides."""

import copy
import itertools
import random
import unittest

from flagroll.allots import allot_changed, allot_new
from flagroll.errors import BadOutcome, BadStage, BadThings, NoGroup, NoSalt, NoWord, RollError
from flagroll.switches import decide, share_at, stages_checked, switch_checked

PLACES = 10007
LETTERS = "abcdefghijklmnopqrstuvwxyz"
SIXTY = [LETTERS[k // 26] + LETTERS[k % 26] for k in range(60)]
SALTS = ["a", "z", "salt", "checkout", "zzzzzzzzzzzz", "aza"]
BARE = ([], [(0, PLACES)])

DEEP = []
for depth in range(5000):
    DEEP = [DEEP]

DEEP_TUPLE = ()
for depth in range(5000):
    DEEP_TUPLE = (DEEP_TUPLE,)


def reckoned_place(salt, number):
    f = b = 0
    for sign in salt:
        f = (f * 31 + ord(sign)) % 10006
        b = (b * 37 + ord(sign)) % 10007
    return ((1 + f) * number + b) % 10007


def numbers_by_place(salt):
    numbers = [None] * PLACES
    for number in range(PLACES):
        numbers[reckoned_place(salt, number)] = number
    return numbers


BY_PLACE = {salt: numbers_by_place(salt) for salt in SALTS}


def reckoned_share(stages, day):
    begun = [places for first, places in stages if first <= day]
    return begun[-1] if begun else 0


def reckoned_holds(groups, cond, marks):
    name, word, things = cond
    if word in ("in", "out"):
        rows = dict(groups)[name]
        held = any(all(reckoned_holds(groups, part, marks) for part in row) for row in rows)
        return held == (word == "in")
    marked = dict(marks)
    there = name in marked
    thing = marked.get(name)
    if word in ("is", "not"):
        return (there and thing in things) == (word == "is")
    if word == "begins":
        return isinstance(thing, str) and any(thing[:len(told)] == told for told in things)
    if word in ("least", "most"):
        return isinstance(thing, int) and (thing >= things[0] if word == "least" else thing <= things[0])
    return there == (word == "has")


def reckoned_decision(groups, switch, day, visitor):
    salt, rest, rules, allot = switch
    place = reckoned_place(salt, visitor[0])
    having = [face for face, run in allot[0] if any(low <= place < high for low, high in run)]
    for number, (conds, outcome) in enumerate(rules):
        if not all(reckoned_holds(groups, cond, visitor[1]) for cond in conds):
            continue
        if outcome[0] == "face":
            return (outcome[1], number)
        if outcome[0] == "share" and place < reckoned_share(outcome[2], day):
            return (outcome[1], number)
        if outcome[0] == "lot" and having:
            return (having[0], number)
    return (rest, len(rules))


def numbered(things):
    # Some of the things can't be written as a text at all, so they are told by their numbers.
    return [(f"number {index}", thing) for index, thing in enumerate(things)]


class StagesCheckedTest(unittest.TestCase):
    def assert_bad(self, stages):
        with self.assertRaises(RollError, msg=stages) as caught:
            stages_checked(stages)
        self.assertIs(type(caught.exception), BadStage, stages)

    def test_let_by(self):
        for stages in ([], [(0, 0)], [(0, 10007)], [(5, 1)], [(10 ** 6, 10006)], [(0, 0), (1, 10007)],
                       [(3, 100), (4, 100), (9, 100)], [(0, 10007), (1, 0), (2, 10007), (10 ** 6, 0)],
                       [(7, 500), (30, 20)], [(day, 0) for day in range(60)],
                       [(day * 7, day * 169) for day in range(60)]):
            self.assertIs(stages_checked(stages), True, stages)

    def test_a_day_that_is_no_greater_at_any_place(self):
        for many in (2, 3, 10, 60):
            stages = [(10 + 5 * k, 100 + k) for k in range(many)]
            self.assertIs(stages_checked(stages), True)
            for place in range(1, many):
                ahead = stages[place - 1][0]
                for day in (ahead, ahead - 1, ahead - 3, 0, -1, -(10 ** 6)):
                    self.assert_bad(stages[:place] + [(day, 100)] + stages[place + 1:])

    def test_a_day_that_is_just_greater(self):
        stages = [(10 + 5 * k, 100) for k in range(10)]
        for place in range(1, 10):
            self.assertIs(stages_checked(stages[:place] + [(stages[place - 1][0] + 1, 100)]), True)

    def test_a_day_that_is_greater_than_those_further_ahead_alone(self):
        self.assert_bad([(5, 1), (3, 1), (4, 1)])
        self.assert_bad([(1, 1), (9, 1), (2, 1)])
        self.assert_bad([(1, 1), (9, 1), (5, 1), (10, 1)])

    def test_a_first_day_below_0(self):
        for day in (-1, -2, -(10 ** 6)):
            self.assert_bad([(day, 0)])
            self.assert_bad([(day, 100), (0, 100), (5, 100)])
        self.assert_bad([(-2, 5), (-1, 5)])

    def test_places_below_0_and_above_all_at_any_place(self):
        for many in (1, 2, 3, 60):
            stages = [(3 * k, 10007 if k % 2 else 0) for k in range(many)]
            self.assertIs(stages_checked(stages), True)
            for place in range(many):
                for places in (-1, -10007, 10008, 20014, 10 ** 9):
                    self.assert_bad(stages[:place] + [(stages[place][0], places)] + stages[place + 1:])


class ShareAtTest(unittest.TestCase):
    def test_no_stages(self):
        for day in (0, 1, 10 ** 6):
            self.assertEqual(share_at([], day), 0)

    def test_one_stage(self):
        for first in (0, 1, 7, 10 ** 6):
            for places in (0, 1, 500, 10007):
                self.assertEqual(share_at([(first, places)], first), places)
                self.assertEqual(share_at([(first, places)], first + 1), places)
                self.assertEqual(share_at([(first, places)], first + 1000), places)
                if first > 0:
                    self.assertEqual(share_at([(first, places)], first - 1), 0)
                    self.assertEqual(share_at([(first, places)], 0), 0)

    def test_many_stages(self):
        stages = [(3, 100), (5, 5000), (6, 20), (10, 0), (20, 10007)]
        told = [0, 0, 0, 100, 100, 5000, 20, 20, 20, 20] + [0] * 10 + [10007] * 5
        self.assertEqual([share_at(stages, day) for day in range(25)], told)

    def test_as_reckoned(self):
        source = random.Random(18)
        for step in range(200):
            days = sorted(source.sample(range(40), source.randint(0, 12)))
            stages = [(day, source.randint(0, 10007)) for day in days]
            for day in range(42):
                self.assertEqual(share_at(stages, day), reckoned_share(stages, day), (stages, day))


NO_SALTS = ["", "A", "a1", "a b", "abcdefghijklm", "a\n", "\u00e9", "\ud800", "a" * 5000, 0, 1, 10 ** 5000, True, False,
            None, [], ["a"], (), ("a",), DEEP, DEEP_TUPLE]

NO_OUTCOMES = ["", "Face", "FACE", "faces", "fac", " face", "face ", "shares", "lots", "lo", "f", "rest", "\ud800",
               "a" * 5000, 0, 1, -1, 2, 3, 10 ** 5000, True, False, None,
               [], ["face"], ["lot"], (), ("face",), ("lot",), ("share", "lot", "face"), DEEP, DEEP_TUPLE]

BAD_CONDS = [
    (NoWord, ("age", "equals", [1])), (NoWord, ("age", None, [])), (NoWord, ("age", DEEP, [])),
    (NoGroup, ("guests", "in", [])), (NoGroup, ("guests", "out", ["a"])),
    (BadThings, ("age", "least", [])), (BadThings, ("age", "is", [True])), (BadThings, ("staff", "in", ["a"])),
    (BadThings, ("land", "begins", [DEEP])),
]

BAD_STAGES = [[(-1, 0)], [(0, 10008)], [(0, -1)], [(1, 1), (1, 2)], [(2, 1), (1, 2)]]

GOOD_CONDS = [("age", "least", [18]), ("staff", "in", []), ("land", "is", ["nl", "be", 7])]
GOOD_OUTCOMES = [("face", "on"), ("share", "on", [(0, 10), (7, 10007)]), ("share", "on", []), ("lot",)]


class SwitchCheckedTest(unittest.TestCase):
    def assert_let_by(self, switch, names=("staff",)):
        self.assertIs(switch_checked(list(names), switch), True)

    def assert_refused(self, refusal, switch, names=("staff",), told=""):
        with self.assertRaises(RollError, msg=told) as caught:
            switch_checked(list(names), switch)
        self.assertIs(type(caught.exception), refusal, told)

    def test_without_rules(self):
        for salt in SALTS:
            self.assert_let_by((salt, "off", [], BARE))
            self.assert_let_by((salt, "off", [], BARE), [])
        self.assert_refused(NoSalt, ("", "off", [], BARE))

    def test_each_outcome(self):
        for outcome in GOOD_OUTCOMES:
            self.assert_let_by(("salt", "off", [([], outcome)], BARE))
            self.assert_let_by(("salt", "off", [(GOOD_CONDS, outcome)], allot_new(["on", "off"])))
        self.assert_let_by(("salt", "off", [(GOOD_CONDS, outcome) for outcome in GOOD_OUTCOMES * 15], BARE))
        self.assert_let_by(("salt", "off", [(GOOD_CONDS * 20, ("lot",))], BARE))

    def test_names_of_groups(self):
        rules = [([(name, word, [])], ("lot",)) for name in SIXTY[:30] for word in ("in", "out")]
        switch = ("salt", "off", rules, BARE)
        self.assert_let_by(switch, SIXTY)
        self.assert_let_by(switch, SIXTY[:30])
        self.assert_refused(NoGroup, switch, SIXTY[:29])
        self.assert_refused(NoGroup, switch, SIXTY[1:])
        self.assert_refused(NoGroup, switch, [])

    def test_no_salt(self):
        for told, salt in numbered(NO_SALTS):
            for rules in ([], [([], ("lot",))], [([("age", "equals", [])], (None,))]):
                self.assert_refused(NoSalt, (salt, "off", rules, BARE), told=told)

    def test_bad_outcome(self):
        for told, word in numbered(NO_OUTCOMES):
            for outcome in ((word,), (word, "on"), (word, "on", []), (word, "on", [(-1, -1)])):
                self.assert_refused(BadOutcome, ("salt", "off", [([], outcome)], BARE), told=told)
                self.assert_refused(BadOutcome, ("salt", "off", [(GOOD_CONDS, outcome)], BARE), told=told)

    def test_conditions(self):
        for refusal, cond in BAD_CONDS:
            for place in range(4):
                conds = GOOD_CONDS[:place] + [cond] + GOOD_CONDS[place:]
                for outcome in GOOD_OUTCOMES:
                    self.assert_refused(refusal, ("salt", "off", [(conds, outcome)], BARE))

    def test_bad_stage(self):
        for stages in BAD_STAGES:
            self.assert_refused(BadStage, ("salt", "off", [([], ("share", "on", stages))], BARE))
            self.assert_refused(BadStage, ("salt", "off", [(GOOD_CONDS, ("share", "on", stages))], BARE))

    def faulty(self, faults):
        """A switch of three rules of two conditions each, with these faults at these slots (0 is the salt)."""
        salt = "A" if 0 in faults else "salt"
        rules = []
        for rule in range(3):
            slots = [1 + 3 * rule, 2 + 3 * rule, 3 + 3 * rule]
            conds = [faults.get(slot, GOOD_CONDS[0]) for slot in slots[:2]]
            rules.append((conds, faults.get(slots[2], ("lot",))))
        return (salt, "off", rules, BARE)

    def faults_at(self, slot):
        if slot == 0:
            return [(NoSalt, None)]
        if slot % 3:
            return [(NoWord, ("age", "equals", [DEEP])), (NoGroup, ("guests", "in", [1])),
                    (BadThings, ("age", "has", [1]))]
        return [(BadOutcome, ("fac", "on", [(-1, -1)])), (BadStage, ("share", "on", [(-1, 5)]))]

    def test_the_first_fault_is_told(self):
        for first, then in itertools.combinations(range(10), 2):
            for one, other in itertools.product(self.faults_at(first), self.faults_at(then)):
                self.assert_refused(one[0], self.faulty({first: one[1], then: other[1]}), told=(first, then))

    def test_each_fault_alone(self):
        self.assert_let_by(self.faulty({}))
        for slot in range(10):
            for refusal, fault in self.faults_at(slot):
                self.assert_refused(refusal, self.faulty({slot: fault}), told=slot)

    def test_all_faults_at_once(self):
        for first in range(10):
            for lead in self.faults_at(first):
                faults = {slot: self.faults_at(slot)[-1][1] for slot in range(first + 1, 10)}
                faults[first] = lead[1]
                self.assert_refused(lead[0], self.faulty(faults), told=first)

    def test_what_is_not_asked_for_is_let_by(self):
        self.assert_let_by(("salt", "rest", [([], ("face", "blue"))], allot_new(["red"])))
        self.assert_let_by(("salt", "rest", [([], ("share", "blue", [(5, 7)])), ([], ("lot",))], BARE))
        self.assert_let_by(("salt", "red", [([], ("lot",))] * 2, allot_changed(allot_new(["red"]), [("red", 10007)])))


def allotted(shares):
    return allot_changed(allot_new([face for face, places in shares]), shares)


class DecideCase(unittest.TestCase):
    def assert_decided(self, told, switch, number, marks=(), day=0, groups=()):
        decided = decide(list(groups), switch, day, (number, list(marks)))
        self.assertEqual(decided, told, (switch, number, marks, day))
        self.assertIsInstance(decided, tuple)
        self.assertIs(type(decided[1]), int)


class OutcomesTest(DecideCase):
    def test_without_rules(self):
        for salt in SALTS:
            for number in (0, 1, 10006, 10007, 10 ** 9):
                self.assert_decided(("off", 0), (salt, "off", [], BARE), number)
                self.assert_decided(("off", 0), (salt, "off", [], allotted([("on", 10007)])), number, [("age", 5)], 9)

    def test_face(self):
        for number in (0, 1, 10006, 10007, 10 ** 9):
            self.assert_decided(("on", 0), ("salt", "off", [([], ("face", "on"))], BARE), number)
            self.assert_decided(("on", 0), ("salt", "on", [([], ("face", "on"))], BARE), number)

    def test_share_at_its_end(self):
        for salt in SALTS:
            for places in (0, 1, 2, 5000, 10006, 10007):
                switch = (salt, "off", [([], ("share", "on", [(3, places)]))], BARE)
                for place in (0, places - 2, places - 1, places, places + 1, 10006):
                    if 0 <= place < PLACES:
                        told = ("on", 0) if place < places else ("off", 1)
                        for day in (3, 4, 10 ** 6):
                            self.assert_decided(told, switch, BY_PLACE[salt][place], day=day)
                            self.assert_decided(told, switch, BY_PLACE[salt][place] + PLACES * 99000, day=day)
                        self.assert_decided(("off", 1), switch, BY_PLACE[salt][place], day=2)

    def test_share_by_the_day(self):
        switch = ("salt", "off", [([], ("share", "on", [(2, 10), (4, 20), (5, 5)]))], BARE)
        for day, places in ((0, 0), (1, 0), (2, 10), (3, 10), (4, 20), (5, 5), (6, 5), (10 ** 6, 5)):
            for place in range(25):
                told = ("on", 0) if place < places else ("off", 1)
                self.assert_decided(told, switch, BY_PLACE["salt"][place], day=day)

    def test_a_share_without_stages(self):
        switch = ("salt", "off", [([], ("share", "on", []))], allotted([("on", 10007)]))
        for place in (0, 1, 10006):
            self.assert_decided(("off", 1), switch, BY_PLACE["salt"][place], day=5)

    def test_lot_at_each_begin_and_end(self):
        rows = [("red", [(5, 9), (0, 3)]), ("blue", []), ("gold", [(3, 5), (10000, 10007)])]
        for salt in SALTS:
            switch = (salt, "off", [([], ("lot",))], (rows, [(9, 10000)]))
            told = {place: "red" for place in (0, 1, 2, 5, 6, 7, 8)}
            told.update({place: "gold" for place in [3, 4] + list(range(10000, 10007))})
            for place in list(range(15)) + list(range(9990, 10007)):
                face = told.get(place)
                decided = (face, 0) if face else ("off", 1)
                self.assert_decided(decided, switch, BY_PLACE[salt][place])
                self.assert_decided(decided, switch, BY_PLACE[salt][place] + PLACES)

    def test_lot_of_no_faces_and_of_all_places(self):
        for place in (0, 5000, 10006):
            number = BY_PLACE["salt"][place]
            self.assert_decided(("off", 1), ("salt", "off", [([], ("lot",))], BARE), number)
            self.assert_decided(("off", 1), ("salt", "off", [([], ("lot",))], allot_new(["on"])), number)
            self.assert_decided(("on", 0), ("salt", "off", [([], ("lot",))], allotted([("on", 10007)])), number)

    def test_the_switchs_own_salt(self):
        for salt in SALTS:
            switch = (salt, "off", [([], ("share", "on", [(0, 5003)]))], BARE)
            for number in list(range(200)) + [10 ** 9 - 1, 10 ** 9]:
                told = ("on", 0) if reckoned_place(salt, number) < 5003 else ("off", 1)
                self.assert_decided(told, switch, number)

    def test_the_rest_may_be_a_face_of_a_rule(self):
        switch = ("salt", "on", [([], ("share", "on", [(0, 1)]))], BARE)
        self.assert_decided(("on", 0), switch, BY_PLACE["salt"][0])
        self.assert_decided(("on", 1), switch, BY_PLACE["salt"][1])


class RulesTest(DecideCase):
    GROUPS = [("staff", [[("mail", "begins", ["a1"])], [("age", "least", [65])]]), ("none", []), ("all", [[]])]

    def test_the_first_rule_that_has_a_face(self):
        rules = [([("age", "least", [18])], ("face", "wine")), ([("age", "has", [])], ("face", "milk")),
                 ([("land", "is", ["nl"])], ("face", "tea")), ([], ("face", "water")), ([], ("face", "soup"))]
        switch = ("salt", "off", rules, BARE)
        self.assert_decided(("wine", 0), switch, 5, [("age", 18)])
        self.assert_decided(("milk", 1), switch, 5, [("age", 17)])
        self.assert_decided(("milk", 1), switch, 5, [("land", "nl"), ("age", "old")])
        self.assert_decided(("tea", 2), switch, 5, [("land", "nl")])
        self.assert_decided(("water", 3), switch, 5, [("land", "be")])
        self.assert_decided(("water", 3), switch, 5, [])

    def test_all_conditions_of_a_rule(self):
        conds = [("age", "least", [18]), ("land", "is", ["nl"]), ("mail", "lacks", [])]
        switch = ("salt", "off", [(conds, ("face", "on"))], BARE)
        self.assert_decided(("on", 0), switch, 5, [("land", "nl"), ("age", 18)])
        self.assert_decided(("off", 1), switch, 5, [("land", "nl"), ("age", 17)])
        self.assert_decided(("off", 1), switch, 5, [("land", "be"), ("age", 18)])
        self.assert_decided(("off", 1), switch, 5, [("land", "nl"), ("age", 18), ("mail", "")])
        self.assert_decided(("off", 1), switch, 5, [])

    def test_a_rule_that_holds_and_has_no_face(self):
        rules = [([], ("share", "red", [(0, 10)])), ([("age", "has", [])], ("lot",)),
                 ([], ("share", "blue", [(4, 30)])), ([("age", "lacks", [])], ("lot",)),
                 ([("age", "has", [])], ("face", "gold"))]
        switch = ("salt", "off", rules, ([("pink", [(20, 40)])], [(0, 20), (40, PLACES)]))
        for place in range(60):
            number = BY_PLACE["salt"][place]
            for day in (0, 3, 4, 5):
                for marks in ([], [("age", 1)]):
                    lot = 20 <= place < 40
                    if place < 10:
                        told = ("red", 0)
                    elif marks and lot:
                        told = ("pink", 1)
                    elif day >= 4 and place < 30:
                        told = ("blue", 2)
                    elif lot:
                        told = ("pink", 3)
                    else:
                        told = ("gold", 4) if marks else ("off", 5)
                    self.assert_decided(told, switch, number, marks, day)

    def test_groups(self):
        rules = [([("staff", "in", []), ("none", "out", [])], ("face", "in")),
                 ([("none", "in", [])], ("face", "never")), ([("all", "out", [])], ("face", "never")),
                 ([("staff", "out", []), ("all", "in", [])], ("face", "out"))]
        switch = ("salt", "off", rules, BARE)
        for marks, told in (([("mail", "a1x")], ("in", 0)), ([("age", 65)], ("in", 0)), ([("age", 64)], ("out", 3)),
                            ([], ("out", 3)), ([("staff", "in"), ("none", 1)], ("out", 3))):
            self.assert_decided(told, switch, 77, marks, 0, self.GROUPS)

    def test_sixty_rules(self):
        rules = [([("name", "is", [name])], ("face", name)) for name in SIXTY]
        for number, name in enumerate(SIXTY):
            self.assert_decided((name, number), ("salt", "off", rules, BARE), 3, [("name", name)])
        self.assert_decided(("off", 60), ("salt", "off", rules, BARE), 3, [("name", "zz")])

    def random_switch(self, source):
        pool = [("age", "least", [18]), ("age", "most", [17]), ("age", "is", [5, "old"]), ("land", "not", ["nl"]),
                ("land", "begins", ["b"]), ("land", "has", []), ("age", "lacks", []), ("staff", "in", []),
                ("staff", "out", []), ("all", "in", []), ("none", "out", [])]
        faces = source.sample(["red", "blue", "gold", "pink"], source.randint(0, 4))
        allot = allot_new(faces)
        for change in range(3):
            allot = allot_changed(allot, [(face, source.randint(0, 2500)) for face in faces])
        rules = []
        for number in range(source.randint(0, 6)):
            days = sorted(source.sample(range(10), source.randint(0, 3)))
            stages = [(day, source.choice([0, 1, 500, 5000, 10006, 10007])) for day in days]
            outcome = source.choice([("face", "on"), ("share", "some", stages), ("share", "red", stages), ("lot",),
                                     ("lot",)])
            rules.append((source.sample(pool, source.choice([0, 0, 1, 1, 2, 3])), outcome))
        return (source.choice(SALTS), "off", rules, allot)

    def test_as_reckoned(self):
        source = random.Random(20)
        for step in range(300):
            switch = self.random_switch(source)
            for visit in range(20):
                marks = [("age", source.choice([5, 17, 18, 65, "old", ""])),
                         ("land", source.choice(["nl", "be", "b", 7])), ("mail", source.choice(["a1", "a", "a12"]))]
                marks = source.sample(marks, source.randint(0, 3))
                number = source.choice([source.randint(0, 10006), source.randint(0, 10 ** 9)])
                day = source.randint(0, 11)
                told = reckoned_decision(self.GROUPS, switch, day, (number, marks))
                self.assert_decided(told, switch, number, marks, day, self.GROUPS)


class GrowthTest(DecideCase):
    def having(self, switch, day, face, number):
        places = range(0, PLACES, 7)
        salt = switch[0]
        return {place for place in places if decide([], switch, day, (BY_PLACE[salt][place], [])) == (face, number)}

    def test_a_share_that_grows_by_days(self):
        stages = [(0, 0), (1, 1), (2, 500), (3, 500), (4, 7000), (9, 10007)]
        rules = [([], ("share", "red", [(2, 300)])), ([], ("share", "on", stages)), ([], ("face", "last"))]
        for salt in ("salt", "z"):
            had = set()
            for day in range(11):
                having = self.having((salt, "off", rules, BARE), day, "on", 1)
                # At day 2 the rule ahead has another share; else it is the same as on the day ahead.
                if day != 2:
                    self.assertLessEqual(had, having)
                had = having
            self.assertEqual(len(had), len([place for place in range(0, PLACES, 7) if place >= 300]))

    def test_a_share_of_the_allotment_that_grows(self):
        source = random.Random(21)
        for salt in ("salt", "z"):
            allot = allot_new(["red", "on", "blue"])
            for step in range(12):
                allot = allot_changed(allot, [("red", source.randint(0, 3000)), ("blue", source.randint(0, 3000))])
                rules = [([], ("share", "gold", [(0, 400)])), ([], ("lot",))]
                before = self.having((salt, "off", rules, allot), 0, "on", 1)
                many = dict((face, sum(high - low for low, high in run)) for face, run in allot[0])["on"]
                allot = allot_changed(allot, [("on", many + source.randint(0, 300))])
                self.assertLessEqual(before, self.having((salt, "off", rules, allot), 0, "on", 1))

    def test_shrunk_and_grown_again_the_same_have_it(self):
        rules = [([], ("lot",))]
        grown = allot_changed(allot_new(["on", "red"]), [("on", 4000), ("red", 2000)])
        shrunk = allot_changed(grown, [("on", 1000)])
        again = allot_changed(shrunk, [("on", 4000)])
        had = self.having(("salt", "off", rules, grown), 0, "on", 0)
        fewer = self.having(("salt", "off", rules, shrunk), 0, "on", 0)
        self.assertLess(fewer, had)
        self.assertEqual(self.having(("salt", "off", rules, again), 0, "on", 0), had)


class OwnTest(unittest.TestCase):
    GROUPS = [("staff", [[("mail", "begins", ["a1"])], []])]
    SWITCH = ("salt", "off", [([("age", "is", [5, "a"]), ("staff", "out", [])], ("share", "on", [(1, 5), (3, 7)])),
                              ([("staff", "in", [])], ("lot",)), ([], ("face", "on"))],
              ([("on", [(5, 9), (0, 2)]), ("red", [])], [(2, 5), (9, 10007)]))

    def test_what_is_handed_in_stays_as_it_was(self):
        handed = copy.deepcopy((self.GROUPS, self.SWITCH, ["staff"], (5, [("age", 5), ("mail", "b")])))
        before = copy.deepcopy(handed)
        groups, switch, names, visitor = handed
        stages_checked(switch[2][0][1][2])
        share_at(switch[2][0][1][2], 2)
        switch_checked(names, switch)
        for day in range(5):
            decide(groups, switch, day, visitor)
        self.assertEqual(handed, before)

    def test_what_is_refused_changes_nothing(self):
        for salt, cond, outcome in (("A", ("age", "is", [1]), ("lot",)), ("a", ("age", "is", [[]]), ("lot",)),
                                    ("a", ("age", "is", [1]), (["lot"], [])),
                                    ("a", ("age", "is", [1]), ("share", "on", [(5, 5), (5, 5)]))):
            handed = ((salt, "off", [([cond], outcome)], copy.deepcopy(BARE)), ["staff"])
            before = copy.deepcopy(handed)
            with self.assertRaises(RollError):
                switch_checked(handed[1], handed[0])
            self.assertEqual(handed, before)

    def test_what_was_asked_ahead_changes_nothing(self):
        groups, switch = copy.deepcopy((self.GROUPS, self.SWITCH))
        number = BY_PLACE["salt"][3]
        self.assertEqual(decide(groups, switch, 0, (number, [])), ("on", 2))
        switch[3][0][0][1].append((3, 4))
        self.assertEqual(decide(groups, switch, 0, (number, [])), ("on", 1))
        switch[2][0][0].clear()
        switch[2][0][1][2].insert(0, (0, 4))
        self.assertEqual(decide(groups, switch, 0, (number, [])), ("on", 0))
        self.assertEqual(share_at(switch[2][0][1][2], 0), 4)


if __name__ == "__main__":
    unittest.main()
