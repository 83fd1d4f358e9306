"""Points 22 to 24, with 2, 3 and 4: houses that are let by, and how their switches answer."""

import copy
import itertools
import random
import unittest

from flagroll.allots import allot_changed, allot_new
from flagroll.errors import (BadOutcome, BadShare, BadStage, BadThings, NoGroup, NoSalt, NoSwitch, NoWord, Ringed,
                             RollError, Twice)
from flagroll.houses import answer, answer_all, house_checked
from flagroll.switches import decide

PLACES = 10007
LETTERS = "abcdefghijklmnopqrstuvwxyz"
SIXTY = [LETTERS[k // 26] + LETTERS[k % 26] for k in range(60)]
BARE = ([], [(0, PLACES)])

DEEP = []
for depth in range(5000):
    DEEP = [DEEP]

NO_SALTS = ["", "A", "a1", "a b", "abcdefghijklm", "a\n", "\ud800", "a" * 5000, 0, 10 ** 5000, True, None, [], ["a"],
            (), ("a",), DEEP]


def reckoned_place(salt, number):
    f = b = 0
    for sign in salt:
        f = (f * 31 + ord(sign)) % 10006
        b = (b * 37 + ord(sign)) % 10007
    return ((1 + f) * number + b) % 10007


def number_at(salt, place):
    return [number for number in range(PLACES) if reckoned_place(salt, number) == place][0]


def switch_of(face="on", rest="off", conds=(), salt="salt"):
    """A switch whose one rule has the face for whom the conditions hold."""
    return (salt, rest, [(list(conds), ("face", face))], BARE)


def entry_of(switch=None, needs=(), stopped=False):
    return (switch_of() if switch is None else switch, list(needs), stopped)


def needing(needs):
    """A house of switches with these needs, a dict of names by name."""
    return ([], [], [(name, entry_of(needs=[(needed, "on") for needed in needs[name]])) for name in needs])


class HouseCase(unittest.TestCase):
    def assert_let_by(self, house):
        self.assertIs(house_checked(house), True)

    def refused(self, house, told=""):
        with self.assertRaises(RollError, msg=told) as caught:
            house_checked(house)
        return caught.exception

    def assert_refused(self, refusal, house, told=""):
        self.assertIs(type(self.refused(house, told)), refusal, told)


class LetByTest(HouseCase):
    def test_without_anything(self):
        self.assert_let_by(([], [], []))

    def test_groups_alone(self):
        self.assert_let_by(([("staff", [])], [], []))
        self.assert_let_by(([("staff", [[]])], [], []))
        rows = [[("age", "is", ["a", 5]), ("age", "not", [5]), ("age", "begins", ["a"])],
                [("age", "least", [5]), ("age", "most", [5])], [], [("age", "has", []), ("staff", "lacks", [])]]
        self.assert_let_by(([("staff", rows), ("guests", rows), ("staffs", [])], [], []))
        self.assert_let_by(([(name, [[("age", "has", [])]]) for name in SIXTY], [], []))

    def test_holdouts(self):
        switches = [("one", entry_of()), ("two", entry_of())]
        for names in (None, [], ["one"], ["two"], ["two", "one"], ["one", "one"]):
            for places in (0, 1, 10006, 10007):
                self.assert_let_by(([], [("some", "a", places, names)], switches))
        self.assert_let_by(([], [("some", "zzzzzzzzzzzz", 5, None), ("more", "a", 5, [])], []))
        self.assert_let_by(([], [(name, "a", 5, ["two"]) for name in SIXTY], switches))

    def test_names_of_one_sort_are_free_for_the_others(self):
        self.assert_let_by(([("one", [])], [("one", "one", 5, ["one"])], [("one", entry_of())]))

    def test_needs_forward_and_back(self):
        self.assert_let_by(needing({"one": ["two", "three"], "two": ["three"], "three": []}))
        self.assert_let_by(needing({"one": [], "two": ["one"], "three": ["two", "one"]}))
        self.assert_let_by(needing({"one": ["three"], "two": ["three", "one"], "three": []}))
        self.assert_let_by(needing({"one": ["two", "two"], "two": []}))
        self.assert_let_by(([], [], [("one", entry_of()), ("two", entry_of(needs=[("one", "none"), ("one", "on")]))]))

    def test_twenty_switches(self):
        names = SIXTY[:20]
        self.assert_let_by(needing({name: [] for name in names}))
        self.assert_let_by(needing({name: names[k + 1:k + 2] for k, name in enumerate(names)}))
        self.assert_let_by(needing({name: names[max(k - 1, 0):k] for k, name in enumerate(names)}))
        self.assert_let_by(needing({name: names[k + 1:] for k, name in enumerate(names[:10])} |
                                   {name: [] for name in names[10:]}))

    def test_switches_that_look_at_groups(self):
        conds = [("staff", "in", []), ("guests", "out", [])]
        switches = [("one", entry_of(switch_of(conds=conds)))]
        self.assert_let_by(([("guests", []), ("staff", [[]])], [], switches))
        self.assert_refused(NoGroup, ([("guests", [])], [], switches))
        self.assert_refused(NoGroup, ([("staff", [[]])], [], switches))
        self.assert_refused(NoGroup, ([], [], switches))


class RefusedTest(HouseCase):
    def placed(self, good, bad):
        """The bad one at each place of the list."""
        return [good[:place] + [bad] + good[place:] for place in range(len(good) + 1)]

    def test_groups(self):
        good = [("staff", [[]]), ("guests", [[("age", "has", [])], []])]
        for groups in ([good[0], good[0]], good + [("staff", [])], good + [("guests", [[("age", "equals", [])]])]):
            self.assert_refused(Twice, (groups, [], []))
        for refusal, cond in ((NoWord, ("age", "equals", [])), (NoWord, ("age", None, [])), (NoWord, ("age", DEEP, [])),
                              (NoWord, ("age", ["is"], ["a"])), (BadThings, ("age", "is", [])),
                              (BadThings, ("age", "least", ["a"])), (BadThings, ("age", "has", [DEEP])),
                              (BadThings, ("age", "begins", [""]))):
            for conds in self.placed([("age", "has", []), ("land", "is", ["a"])], cond):
                for rows in self.placed([[], [("age", "lacks", [])]], conds):
                    for groups in self.placed(good, ("some", rows)):
                        self.assert_refused(refusal, (groups, [], []))

    def test_in_and_out_in_a_group(self):
        for word in ("in", "out"):
            for name in ("staff", "guests", "nobody"):
                for things in ([], ["a"], [DEEP]):
                    for rows in ([[(name, word, things)]], [[], [("age", "has", []), (name, word, things)]]):
                        self.assert_refused(NoWord, ([("guests", []), ("staff", rows)], [], []))
                        self.assert_refused(NoWord, ([("staff", rows), ("guests", [])], [], []))

    def test_holdouts(self):
        switches = [("one", entry_of()), ("two", entry_of())]
        good = [("some", "a", 5, None), ("more", "a", 0, ["one"]), ("last", "a", 10007, ["two", "one"])]
        for bad in good:
            self.assert_refused(Twice, ([], good + [bad], switches))
            self.assert_refused(Twice, ([], [bad] + good, switches))
        for salt in NO_SALTS:
            for holdouts in self.placed(good, ("bad", salt, 5, None)):
                self.assert_refused(NoSalt, ([], holdouts, switches))
        for places in (-1, -10007, 10008, 10 ** 9):
            for holdouts in self.placed(good, ("bad", "a", places, None)):
                self.assert_refused(BadShare, ([], holdouts, switches))
        for names in (["three"], ["one", "three"], ["three", "two"], ["one", "two", "some"]):
            for holdouts in self.placed(good, ("bad", "a", 5, names)):
                self.assert_refused(NoSwitch, ([], holdouts, switches))
        self.assert_refused(NoSwitch, ([("one", [])], [("one", "a", 5, ["one"])], []))

    def test_a_switch_twice(self):
        good = [("one", entry_of()), ("two", entry_of())]
        for name, entry in good:
            self.assert_refused(Twice, ([], [], good + [(name, entry_of(stopped=True))]))
            self.assert_refused(Twice, ([], [], [(name, entry)] + good))

    def test_switches(self):
        good = [("one", entry_of()), ("two", entry_of())]
        for refusal, switch in (
                (NoSalt, switch_of(salt="A")), (NoSalt, switch_of(salt=DEEP)),
                (NoWord, switch_of(conds=[("age", "equals", [])])), (NoGroup, switch_of(conds=[("guests", "in", [])])),
                (BadThings, switch_of(conds=[("staff", "in", []), ("age", "has", [1])])),
                (BadOutcome, ("a", "off", [([], ("rest",))], BARE)), (BadOutcome, ("a", "off", [([], (DEEP,))], BARE)),
                (BadStage, ("a", "off", [([], ("lot",)), ([], ("share", "on", [(5, 5), (5, 5)]))], BARE))):
            for switches in self.placed(good, ("bad", entry_of(switch))):
                self.assert_refused(refusal, ([("staff", [])], [], switches))
            for switches in self.placed(good, ("bad", entry_of(switch, stopped=True))):
                self.assert_refused(refusal, ([("staff", [])], [], switches))

    def test_needs(self):
        good = [("one", entry_of()), ("two", entry_of(needs=[("one", "on")]))]
        for needs in ([("three", "on")], [("one", "on"), ("three", "on")], [("three", "on"), ("two", "on")],
                      [("one", "on"), ("two", "off"), ("on", "on")]):
            for switches in self.placed(good, ("bad", entry_of(needs=needs))):
                self.assert_refused(NoSwitch, ([("three", [])], [("three", "a", 5, None)], switches))


class FirstFaultTest(HouseCase):
    """A house with slots for faults, in the order in which they are looked through."""

    SLOTS = [(part, index, slot) for part, slots in (("group", 3), ("holdout", 4), ("switch", 5))
             for index in range(2) for slot in range(slots)] + [("ring", 0, 0)]

    def group(self, index, faults):
        name = "gone" if faults.get(("group", index, 0)) else f"g{LETTERS[index]}"
        first = faults.get(("group", index, 1)) or ("age", "has", [])
        last = faults.get(("group", index, 2)) or ("age", "lacks", [])
        return (name, [[("age", "is", [1]), first], [last]])

    def holdout(self, index, faults):
        name = "gone" if faults.get(("holdout", index, 0)) else f"h{LETTERS[index]}"
        salt = "A" if faults.get(("holdout", index, 1)) else "a"
        places = faults.get(("holdout", index, 2)) or 5
        return (name, salt, places, ["sa", "nobody" if faults.get(("holdout", index, 3)) else "sb"])

    def switch(self, index, faults):
        name = "gone" if faults.get(("switch", index, 0)) else f"s{LETTERS[index]}"
        salt = [1] if faults.get(("switch", index, 1)) else "a"
        cond = faults.get(("switch", index, 2)) or ("gone", "in", [])
        outcome = faults.get(("switch", index, 3)) or ("lot",)
        needed = "nobody" if faults.get(("switch", index, 4)) else "gone"
        switch = (salt, "off", [([], ("lot",)), ([cond], outcome)], BARE)
        return (name, (switch, [("gone", "on"), (needed, "on")], False))

    def house(self, faults):
        # What is called "gone" stands first, so that a later one of that name stands twice.
        groups = [("gone", [])] + [self.group(index, faults) for index in range(2)]
        holdouts = [("gone", "a", 5, None)] + [self.holdout(index, faults) for index in range(2)]
        needs = [("sb", "on")] if faults.get(("ring", 0, 0)) else []
        ends = [("sa", entry_of()), ("sb", entry_of())]
        switches = [self.switch(index, faults) for index in range(2)]
        names = [name for name, entry in switches]
        ends = [end for end in ends if end[0] not in names]
        return (groups, holdouts, [("gone", entry_of(needs=needs))] + switches + ends)

    def faults_at(self, slot):
        part, index, kind = slot
        if part == "group" and kind > 0:
            return [(NoWord, ("ga", "in", [])), (NoWord, ("age", "equals", [1])), (BadThings, ("age", "is", []))]
        if part == "holdout" and kind == 2:
            return [(BadShare, -1), (BadShare, 10008)]
        if part == "switch" and kind == 2:
            return [(NoWord, ("age", "equals", [])), (NoGroup, ("nobody", "out", [])), (BadThings, ("age", "is", []))]
        if part == "switch" and kind == 3:
            return [(BadOutcome, ("lots",)), (BadStage, ("share", "on", [(-1, 1)]))]
        if part == "ring":
            return [(Ringed, True)]
        told = {"group": [Twice], "holdout": [Twice, NoSalt, None, NoSwitch],
                "switch": [Twice, NoSalt, None, None, NoSwitch]}
        return [(told[part][kind], True)]

    def test_each_fault_alone(self):
        self.assert_let_by(self.house({}))
        for slot in self.SLOTS:
            for refusal, fault in self.faults_at(slot):
                self.assert_refused(refusal, self.house({slot: fault}), slot)

    def test_each_fault_ahead_of_each_behind_it(self):
        for first, then in itertools.combinations(self.SLOTS, 2):
            for one, other in itertools.product(self.faults_at(first), self.faults_at(then)):
                self.assert_refused(one[0], self.house({first: one[1], then: other[1]}), (first, then))

    def test_all_faults_from_one_on(self):
        for place, first in enumerate(self.SLOTS):
            for refusal, fault in self.faults_at(first):
                faults = {slot: self.faults_at(slot)[-1][1] for slot in self.SLOTS[place + 1:]}
                faults[first] = fault
                self.assert_refused(refusal, self.house(faults), first)

    def test_two_switches_of_one_name_and_a_ring(self):
        house = needing({"one": ["two"], "two": ["one"]})
        self.assert_refused(Twice, (house[0], house[1], house[2] + [("one", entry_of())]))


class RingTest(HouseCase):
    def assert_ringed(self, needs, rings=None):
        refusal = self.refused(needing(needs), needs)
        self.assertIs(type(refusal), Ringed, needs)
        ring = refusal.ring
        self.assertIs(type(ring), tuple)
        self.assertGreaterEqual(len(ring), 1)
        self.assertEqual(len(set(ring)), len(ring), ring)
        for name, needed in zip(ring, ring[1:] + ring[:1]):
            self.assertIn(needed, needs[name], (needs, ring))
        if rings is not None:
            turned = [ring[k:] + ring[:k] for k in range(len(ring))]
            self.assertTrue(any(told in turned for told in rings), (needs, ring))

    def test_a_switch_that_needs_itself(self):
        self.assert_ringed({"one": ["one"]}, [("one",)])
        self.assert_ringed({"one": [], "two": ["one", "two"], "three": ["two"]}, [("two",)])
        self.assert_ringed({"one": ["two"], "two": ["three"], "three": ["three"]}, [("three",)])

    def test_two_switches(self):
        self.assert_ringed({"one": ["two"], "two": ["one"]}, [("one", "two")])
        self.assert_ringed({"one": ["two"], "two": ["three"], "three": ["two"]}, [("two", "three")])
        self.assert_ringed({"one": [], "two": ["one", "three"], "three": ["one", "two"]}, [("two", "three")])

    def test_rings_of_many_with_ways_in_and_out(self):
        for many in range(1, 16):
            ring = SIXTY[:many]
            for shift in range(3):
                needs = {"way": ["path"], "path": [ring[many // 2]], "end": []}
                needs.update({name: ["end", ring[(k + 1) % many]] for k, name in enumerate(ring)})
                names = list(needs)
                names = names[shift:] + names[:shift]
                self.assert_ringed({name: needs[name] for name in names}, [tuple(ring)])

    def test_several_rings(self):
        needs = {"a": ["b"], "b": ["a", "c"], "c": ["d"], "d": ["e"], "e": ["c", "f"], "f": ["f"]}
        rings = [("a", "b"), ("c", "d", "e"), ("f",)]
        for names in itertools.permutations(needs):
            self.assert_ringed({name: needs[name] for name in names}, rings)

    def test_two_rings_with_a_common_switch(self):
        needs = {"a": ["b", "c"], "b": ["a"], "c": ["d"], "d": ["a"]}
        for names in itertools.permutations(needs):
            self.assert_ringed({name: needs[name] for name in names}, [("a", "b"), ("a", "c", "d")])

    def test_ways_that_meet_are_no_ring(self):
        self.assert_let_by(needing({"a": ["b", "c"], "b": ["d"], "c": ["d"], "d": []}))
        self.assert_let_by(needing({"a": ["b", "b", "c", "d"], "b": ["c", "d"], "c": ["d", "d"], "d": []}))

    def has_ring(self, needs):
        reached = {name: set(needs[name]) for name in needs}
        for step in needs:
            for name in needs:
                for needed in list(reached[name]):
                    reached[name] |= reached[needed]
        return any(name in reached[name] for name in needs)

    def test_as_reckoned(self):
        source = random.Random(23)
        found = [0, 0]
        for step in range(2000):
            names = SIXTY[:source.randint(1, 8)]
            needs = {name: [source.choice(names) for k in range(source.choice([0, 0, 0, 1, 1, 2]))] for name in names}
            ringed = self.has_ring(needs)
            found[ringed] += 1
            if ringed:
                self.assert_ringed(needs)
            else:
                self.assert_let_by(needing(needs))
        self.assertGreater(min(found), 300)

    def test_a_ring_of_stopped_switches(self):
        entries = [(name, entry_of(needs=[(needed, "off")], stopped=True))
                   for name, needed in (("one", "two"), ("two", "one"))]
        self.assert_refused(Ringed, ([], [], entries))


def reckoned_answer(house, day, visitor, name):
    """What point 24 tells, with decide alone taken from the program."""
    groups, holdouts, switches = house
    switch, needs, stopped = dict(switches)[name]
    held = [holdout for holdout, salt, places, names in holdouts
            if (names is None or name in names) and reckoned_place(salt, visitor[0]) < places]
    unmet = [needed for needed, face in needs if reckoned_answer(house, day, visitor, needed)[0] != face]
    if stopped:
        return (switch[1], ("stopped",))
    if held:
        return (switch[1], ("held", held[0]))
    if unmet:
        return (switch[1], ("needs", unmet[0]))
    face, number = decide(groups, switch, day, visitor)
    return (face, ("rule", number) if number < len(switch[2]) else ("rest",))


class AnswerCase(unittest.TestCase):
    def assert_answer(self, told, house, name, number=0, marks=(), day=0):
        answered = answer(house, day, (number, list(marks)), name)
        self.assertEqual(answered, told, (name, number, marks, day))
        self.assertIs(type(answered), tuple)
        self.assertIs(type(answered[1]), tuple)

    def assert_all(self, told, house, number=0, marks=(), day=0):
        answered = answer_all(house, day, (number, list(marks)))
        self.assertEqual(answered, told)
        self.assertIs(type(answered), list)
        for row in answered:
            self.assertIs(type(row), tuple)
            self.assertEqual(answer(house, day, (number, list(marks)), row[0]), row[1:])


class ReasonsTest(AnswerCase):
    def test_rule_and_rest(self):
        rules = [([("age", "least", [18])], ("face", "wine")), ([("staff", "in", [])], ("face", "milk"))]
        groups = [("staff", [[("mail", "begins", ["a"])]])]
        house = (groups, [], [("drink", (("salt", "water", rules, BARE), [], False))])
        self.assert_answer(("wine", ("rule", 0)), house, "drink", 5, [("age", 18), ("mail", "a1")])
        self.assert_answer(("milk", ("rule", 1)), house, "drink", 5, [("age", 17), ("mail", "a1")])
        self.assert_answer(("water", ("rest",)), house, "drink", 5, [("age", 17)])

    def test_a_rule_whose_face_is_the_rest(self):
        house = ([], [], [("drink", (switch_of("on", "on", [("age", "has", [])]), [], False))])
        self.assert_answer(("on", ("rule", 0)), house, "drink", 5, [("age", 17)])
        self.assert_answer(("on", ("rest",)), house, "drink", 5)

    def test_a_switch_without_rules(self):
        house = ([], [], [("drink", (("salt", "water", [], BARE), [], False))])
        self.assert_answer(("water", ("rest",)), house, "drink", 5)

    def test_shares_and_days(self):
        rules = [([], ("share", "on", [(3, 10)])), ([], ("lot",))]
        switch = ("salt", "off", rules, allot_changed(allot_new(["red"]), [("red", 20)]))
        house = ([], [], [("one", (switch, [], False))])
        for place, early, late in ((0, ("red", ("rule", 1)), ("on", ("rule", 0))),
                                   (9, ("red", ("rule", 1)), ("on", ("rule", 0))),
                                   (10, ("red", ("rule", 1)), ("red", ("rule", 1))),
                                   (19, ("red", ("rule", 1)), ("red", ("rule", 1))),
                                   (20, ("off", ("rest",)), ("off", ("rest",)))):
            number = number_at("salt", place)
            self.assert_answer(early, house, "one", number, day=2)
            self.assert_answer(late, house, "one", number, day=3)

    def test_stopped(self):
        house = ([], [("all", "a", 10007, None)], [
            ("one", entry_of(stopped=True)),
            ("two", entry_of(switch_of("blue", "red"), needs=[("one", "on")], stopped=True)),
            ("three", entry_of(needs=[("one", "off")], stopped=True))])
        self.assert_answer(("off", ("stopped",)), house, "one")
        self.assert_answer(("red", ("stopped",)), house, "two")
        faces = [("one", "off"), ("two", "red"), ("three", "off")]
        self.assert_all([(name, face, ("stopped",)) for name, face in faces], house)

    def test_held_at_the_end_of_its_places(self):
        for salt in ("a", "salt", "zzzzzzzzzzzz"):
            for places in (0, 1, 500, 10006, 10007):
                house = ([], [("some", salt, places, None)], [("one", entry_of(switch_of(salt="other")))])
                for place in {0, max(places - 1, 0), min(places, 10006), min(places + 1, 10006), 10006}:
                    told = ("off", ("held", "some")) if place < places else ("on", ("rule", 0))
                    number = number_at(salt, place)
                    self.assert_answer(told, house, "one", number)
                    self.assert_answer(told, house, "one", number + PLACES * 90000)

    def test_held_out_of_some_switches(self):
        switches = [(name, entry_of()) for name in ("one", "two", "three", "four")]
        holdouts = [("some", "a", 10007, ["three", "one"]), ("nobody", "a", 10007, []), ("more", "a", 10007, ["two"])]
        house = ([], holdouts, switches)
        self.assert_answer(("off", ("held", "some")), house, "one")
        self.assert_answer(("off", ("held", "more")), house, "two")
        self.assert_answer(("off", ("held", "some")), house, "three")
        self.assert_answer(("on", ("rule", 0)), house, "four")

    def test_the_first_holdout(self):
        number = number_at("a", 50)
        holdouts = [("one", "a", 50, None), ("two", "a", 10007, ["other"]), ("three", "a", 51, ["it"]),
                    ("four", "a", 10007, None), ("five", "a", 10007, ["it"])]
        switches = [("it", entry_of()), ("other", entry_of())]
        self.assert_answer(("off", ("held", "three")), ([], holdouts, switches), "it", number)
        self.assert_answer(("off", ("held", "two")), ([], holdouts, switches), "other", number)
        self.assert_answer(("off", ("held", "one")), ([], holdouts, switches), "it", number_at("a", 49))
        self.assert_answer(("off", ("held", "four")), ([], holdouts, switches), "it", number_at("a", 51))
        self.assert_answer(("off", ("held", "five")), ([], holdouts[::-1], switches), "it", number)

    def test_who_is_held_out_gets_nothing_but_the_rest(self):
        lot = ("salt", "off", [([], ("lot",))], ([("on", [(0, PLACES)])], []))
        share = ("salt", "off", [([], ("share", "on", [(0, PLACES)]))], BARE)
        switches = [("one", entry_of()), ("two", entry_of(needs=[("one", "on")])), ("three", entry_of(lot)),
                    ("four", entry_of(share, needs=[("three", "off")]))]
        house = ([], [("some", "held", 3000, None)], switches)
        for number in range(0, PLACES, 97):
            for name, face, reason in answer_all(house, 0, (number, [])):
                if reckoned_place("held", number) < 3000:
                    self.assertEqual((face, reason), ("off", ("held", "some")))
                else:
                    self.assertNotEqual(reason[0], "held")

    def test_needs(self):
        house = ([], [], [("one", entry_of(switch_of("blue", "red", [("age", "least", [18])]))),
                          ("two", entry_of(needs=[("one", "blue")])), ("three", entry_of(needs=[("one", "red")])),
                          ("four", entry_of(needs=[("one", "gold")]))])
        self.assert_all([("one", "blue", ("rule", 0)), ("two", "on", ("rule", 0)), ("three", "off", ("needs", "one")),
                         ("four", "off", ("needs", "one"))], house, 5, [("age", 18)])
        self.assert_all([("one", "red", ("rest",)), ("two", "off", ("needs", "one")), ("three", "on", ("rule", 0)),
                         ("four", "off", ("needs", "one"))], house, 5, [("age", 17)])

    def test_the_first_need_that_is_not_met(self):
        names = ["one", "two", "three"]
        for met in itertools.product([True, False], repeat=3):
            switches = [(name, entry_of()) for name in names]
            needs = [(name, "on" if fits else "blue") for name, fits in zip(names, met)]
            for order in itertools.permutations(needs):
                unmet = [name for name, face in order if face == "blue"]
                told = ("off", ("needs", unmet[0])) if unmet else ("on", ("rule", 0))
                self.assert_answer(told, ([], [], [("it", entry_of(needs=order))] + switches), "it")
                self.assert_answer(told, ([], [], switches + [("it", entry_of(needs=order))]), "it")

    def test_needs_of_one_switch_with_unlike_faces(self):
        house = ([], [], [("one", entry_of()), ("two", entry_of(needs=[("one", "on"), ("one", "off")]))])
        self.assert_answer(("off", ("needs", "one")), house, "two")

    def test_needs_of_needs(self):
        chain = [("sa", entry_of(needs=[("sb", "on")])), ("sb", entry_of(needs=[("sc", "on")])),
                 ("sc", entry_of(switch_of(conds=[("age", "has", [])])))]
        for order in itertools.permutations(chain):
            house = ([], [], list(order))
            self.assert_answer(("on", ("rule", 0)), house, "sa", 5, [("age", 5)])
            self.assert_answer(("off", ("needs", "sb")), house, "sa", 5)
            self.assert_answer(("off", ("needs", "sc")), house, "sb", 5)
            self.assert_answer(("off", ("rest",)), house, "sc", 5)

    def test_a_need_of_a_stopped_or_held_switch(self):
        for holdouts, stopped, reason in (([], True, ("stopped",)),
                                          ([("some", "a", 10007, ["one"])], False, ("held", "some"))):
            house = ([], holdouts, [("one", entry_of(switch_of("blue", "red"), stopped=stopped)),
                                    ("two", entry_of(needs=[("one", "blue")])),
                                    ("three", entry_of(needs=[("one", "red"), ("two", "off")]))])
            self.assert_all([("one", "red", reason), ("two", "off", ("needs", "one")), ("three", "on", ("rule", 0))],
                            house)

    def test_a_need_is_asked_for_that_visitor_and_day(self):
        switch = ("salt", "off", [([], ("share", "on", [(4, 100)]))], BARE)
        house = ([], [], [("two", entry_of(needs=[("one", "on")])), ("one", entry_of(switch))])
        self.assert_answer(("on", ("rule", 0)), house, "two", number_at("salt", 99), day=4)
        self.assert_answer(("off", ("needs", "one")), house, "two", number_at("salt", 99), day=3)
        self.assert_answer(("off", ("needs", "one")), house, "two", number_at("salt", 100), day=4)

    def test_each_reason_ahead_of_those_behind_it(self):
        for stopped, held, unmet, ruled in itertools.product([True, False], repeat=4):
            rules = [([], ("face", "on"))] if ruled else []
            needs = [("one", "blue")] if unmet else [("one", "on")]
            house = ([], [("some", "a", 10007 if held else 0, ["it"])],
                     [("one", entry_of()), ("it", (("salt", "off", rules, BARE), needs, stopped))])
            told = ("on", ("rule", 0)) if ruled else ("off", ("rest",))
            told = ("off", ("needs", "one")) if unmet else told
            told = ("off", ("held", "some")) if held else told
            told = ("off", ("stopped",)) if stopped else told
            self.assert_answer(told, house, "it")
            self.assert_all([("one", "on", ("rule", 0)), ("it", told[0], told[1])], house)


class WholeHouseTest(AnswerCase):
    def test_without_switches(self):
        self.assert_all([], ([], [], []))
        self.assert_all([], ([("staff", [])], [("some", "a", 5, None)], []))

    def test_no_such_switch(self):
        house = ([("staff", [])], [("some", "a", 5, None)], [("one", entry_of()), ("two", entry_of())])
        for name in ("three", "on", "ones", "staff", "some", "off"):
            with self.assertRaises(RollError) as caught:
                answer(house, 0, (5, []), name)
            self.assertIs(type(caught.exception), NoSwitch)
        with self.assertRaises(NoSwitch):
            answer(([], [], []), 0, (5, []), "one")

    def test_the_order_of_the_switches(self):
        names = ["b", "c", "a", "zz", "aa", "m"]
        for order in itertools.permutations(names, 5):
            needs = [(order[-1], "on")]
            house = ([], [], [(name, entry_of(needs=needs if name != order[-1] else [])) for name in order])
            self.assertEqual([row[0] for row in answer_all(house, 0, (0, []))], list(order))

    def test_ways_that_meet_time_and_again(self):
        names = SIXTY[:9]
        entries = [(name, entry_of(needs=[(needed, "on") for needed in names[k + 1:]])) for k, name in enumerate(names)]
        for order in (entries, entries[::-1]):
            self.assert_all([(name, "on", ("rule", 0)) for name, entry in order], ([], [], order))

    def test_a_long_chain(self):
        names = SIXTY[:20]
        entries = [(name, entry_of(needs=[(needed, "on") for needed in names[k + 1:k + 2]]))
                   for k, name in enumerate(names)]
        self.assert_all([(name, "on", ("rule", 0)) for name in names], ([], [], entries))
        entries[-1] = (names[-1], entry_of(stopped=True))
        told = [(name, "off", ("needs", names[k + 1])) for k, name in enumerate(names[:-1])]
        self.assert_all(told + [(names[-1], "off", ("stopped",))], ([], [], entries))

    def random_house(self, source):
        pool = [[], [("age", "least", [18])], [("staff", "in", [])], [("staff", "out", []), ("age", "has", [])]]
        names = SIXTY[:source.randint(1, 7)]
        holdouts = []
        for name in SIXTY[10:10 + source.randint(0, 3)]:
            told = source.choice([None, source.sample(names, source.randint(0, len(names)))])
            holdouts.append((name, source.choice(["a", "b", "c"]), source.choice([0, 1000, 4000, 10007]), told))
        switches = []
        for k, name in enumerate(names):
            faces = ["on", "blue"]
            rules = []
            for number in range(source.randint(0, 3)):
                outcome = source.choice([("face", "on"), ("share", "on", [(2, 3000), (5, 9000)]), ("lot",)])
                rules.append((source.choice(pool), outcome))
            allot = allot_changed(allot_new(faces), [("on", 4000), ("blue", 3000)])
            needs = [(source.choice(names[k + 1:]), source.choice(["on", "on", "off", "blue"]))
                     for need in range(source.choice([0, 1, 1, 2, 3]) if k + 1 < len(names) else 0)]
            entry = ((source.choice(["a", "salt", "d"]), "off", rules, allot), needs, source.random() < 0.15)
            switches.append((name, entry))
        source.shuffle(switches)
        return ([("staff", [[("mail", "begins", ["a"])]])], holdouts, switches)

    def test_as_reckoned(self):
        source = random.Random(24)
        reasons = {}
        for step in range(300):
            house = self.random_house(source)
            self.assertIs(house_checked(house), True)
            for visit in range(10):
                number = source.choice([source.randint(0, 10006), source.randint(0, 10 ** 9)])
                marks = source.sample([("age", source.choice([17, 18])), ("mail", "a1")], source.randint(0, 2))
                day = source.randint(0, 7)
                told = [(name,) + reckoned_answer(house, day, (number, marks), name) for name, entry in house[2]]
                self.assert_all(told, house, number, marks, day)
                for row in told:
                    reasons[row[2][0]] = reasons.get(row[2][0], 0) + 1
        self.assertEqual(sorted(reasons), ["held", "needs", "rest", "rule", "stopped"])
        self.assertGreater(min(reasons.values()), 500)


class OwnTest(unittest.TestCase):
    HOUSE = ([("staff", [[("mail", "begins", ["a1"])], []])], [("some", "a", 500, ["one"]), ("all", "b", 10, None)],
             [("one", entry_of(needs=[("two", "on")])),
              ("two", (("salt", "off", [([("staff", "in", [])], ("share", "on", [(1, 5)])), ([], ("lot",))],
                        ([("on", [(5, 9)])], [(0, 5), (9, PLACES)])), [], False))])

    def test_what_is_handed_in_stays_as_it_was(self):
        house, visitor = handed = copy.deepcopy((self.HOUSE, (5, [("mail", "a1")])))
        house_checked(house)
        for number in range(0, PLACES, 400):
            answer(house, 2, (number, visitor[1]), "one")
            answer_all(house, 2, (number, visitor[1]))
        answer_all(house, 0, visitor)
        with self.assertRaises(NoSwitch):
            answer(house, 0, visitor, "three")
        self.assertEqual(handed, (self.HOUSE, (5, [("mail", "a1")])))

    def test_what_is_refused_changes_nothing(self):
        for house in (needing({"one": ["two"], "two": ["one", "three"], "three": []}), needing({"one": ["none"]}),
                      ([("a", [[("a", "in", [])]])], [], []), ([], [("a", "a", -1, [])], [])):
            before = copy.deepcopy(house)
            with self.assertRaises(RollError):
                house_checked(house)
            self.assertEqual(house, before)

    def test_what_was_told_is_the_askers_own(self):
        house = copy.deepcopy(self.HOUSE)
        told = answer_all(house, 0, (5, []))
        before = list(told)
        again = answer_all(house, 0, (5, []))
        again.clear()
        house[2].pop()
        house[1].clear()
        self.assertEqual(told, before)
        told.clear()
        self.assertEqual(answer_all(copy.deepcopy(self.HOUSE), 0, (5, [])), before)

    def test_what_was_asked_ahead_changes_nothing(self):
        house = copy.deepcopy(self.HOUSE)
        number = [k for k in range(PLACES) if reckoned_place("a", k) >= 500 and reckoned_place("b", k) >= 10
                  and reckoned_place("salt", k) >= 9][0]
        self.assertEqual(answer(house, 0, (number, []), "one"), ("off", ("needs", "two")))
        house[2][0][1][1].clear()
        self.assertEqual(answer(house, 0, (number, []), "one"), ("on", ("rule", 0)))
        house[1].append(("new", "a", PLACES, ["one"]))
        self.assertEqual(answer(house, 0, (number, []), "one"), ("off", ("held", "new")))
        self.assertIs(house_checked(house), True)
        house[2][0][1][1].append(("one", "on"))
        with self.assertRaises(Ringed):
            house_checked(house)


if __name__ == "__main__":
    unittest.main()
