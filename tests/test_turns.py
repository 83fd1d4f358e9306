"""Points 33 and 34, with 2, 3 and 4: for whom two switches of one salt tell unlike faces, and for how many."""

import copy
import itertools
import random
import unittest

from flagroll.allots import allot_changed, allot_new
from flagroll.errors import RollError, Unlike
from flagroll.switches import decide
from flagroll.turns import faces_turned, switch_turned

PLACES = 10007
BARE = ([], [(0, PLACES)])
LETTERS = "abcdefghijklmnopqrstuvwxyz"
SIGNS = LETTERS + "0123456789"
SALTS = ["salt", "z", "checkout"]
SIXTY = [LETTERS[k // 26] + LETTERS[k % 26] for k in range(60)]
ON = ("face", "on")
GROUPS = [("staff", [[("mail", "begins", ["a"])], [("age", "least", [65]), ("land", "not", ["be"])]]),
          ("none", []), ("all", [[]]), ("old", [[("age", "least", [65])]])]

# Things that lie in every cell of the conditions of random_switch, and at their edges.
THINGS = {"age": [None, "", "old", "o", "olds", "zz", -(10 ** 9), 0, 4, 5, 6, 16, 17, 18, 19, 64, 65, 10 ** 9],
          "land": [None, "", "b", "be", "ben", "n", "nl", "zz", -1, 6, 7, 8],
          "mail": [None, "", "a", "ab", "b", 5]}


def reckoned_place(salt, number):
    f = b = 0
    for sign in salt:
        f = (f * 31 + ord(sign)) % 10006
        b = (b * 37 + ord(sign)) % 10007
    return ((1 + f) * number + b) % 10007


def numbers_by_place(salt):
    numbers = [None] * PLACES
    for number in range(PLACES):
        numbers[reckoned_place(salt, number)] = number
    return numbers


BY_PLACE = {salt: numbers_by_place(salt) for salt in SALTS}


def switch_of(*rules, allot=BARE, salt="salt", rest="off"):
    return (salt, rest, [(list(conds), outcome) for conds, outcome in rules], allot)


def share(many, face="on", day=0):
    return ("share", face, [(day, many)])


class TurnsCase(unittest.TestCase):
    def assert_visitor(self, visitor):
        self.assertIs(type(visitor), tuple)
        number, marks = visitor
        self.assertIs(type(number), int)
        self.assertTrue(0 <= number <= 10 ** 9)
        self.assertIs(type(marks), list)
        self.assertEqual(len(dict(marks)), len(marks))
        for mark in marks:
            self.assertIs(type(mark), tuple)
            name, thing = mark
            self.assertIs(type(name), str)
            if type(thing) is int:
                self.assertLessEqual(abs(thing), 10 ** 9)
            else:
                self.assertIs(type(thing), str)
                self.assertTrue(len(thing) <= 12 and all(sign in SIGNS for sign in thing), thing)

    def faces_for(self, groups, one, other, day, visitor):
        return (decide(groups, one, day, visitor)[0], decide(groups, other, day, visitor)[0])

    def assert_alike(self, one, other, groups=GROUPS, day=0):
        self.assertIsNone(switch_turned(groups, one, other, day))
        self.assertIsNone(switch_turned(groups, other, one, day))

    def assert_unlike(self, one, other, groups=GROUPS, day=0):
        """Told each way round; gives back the visitors."""
        told = []
        for first, then in ((one, other), (other, one)):
            visitor = switch_turned(groups, first, then, day)
            self.assertIsNotNone(visitor, (first, then, day))
            self.assert_visitor(visitor)
            faces = self.faces_for(groups, first, then, day, visitor)
            self.assertNotEqual(faces[0], faces[1], (first, then, day, visitor))
            told.append(visitor)
        return told


class SaltsTest(TurnsCase):
    def assert_refused(self, one, other, marks=()):
        for asked in (lambda: switch_turned(GROUPS, one, other, 0),
                      lambda: faces_turned(GROUPS, one, other, 0, list(marks))):
            with self.assertRaises(RollError) as caught:
                asked()
            self.assertIs(type(caught.exception), Unlike)

    def test_unlike_salts(self):
        for one, other in itertools.permutations(["a", "b", "aa", "salt", "salts", "zzzzzzzzzzzz"], 2):
            self.assert_refused(switch_of(salt=one), switch_of(salt=other))
            self.assert_refused(switch_of(([], ON), salt=one), switch_of(salt=other), [("age", 5)])

    def test_salts_that_give_the_same_places(self):
        for number in range(0, PLACES, 100):
            self.assertEqual(reckoned_place("aza", number), reckoned_place("doap", number))
        self.assert_refused(switch_of(salt="aza"), switch_of(salt="doap"))
        self.assert_refused(switch_of(([], ON), salt="doap"), switch_of(([], ON), salt="aza"))

    def test_the_same_salt(self):
        for salt in ("a", "aza", "zzzzzzzzzzzz"):
            self.assert_alike(switch_of(salt=salt), switch_of(salt="".join(list(salt))))


class AlikeTest(TurnsCase):
    def test_the_same_switch(self):
        allot = allot_changed(allot_new(["red", "blue"]), [("red", 50), ("blue", 70)])
        for switch in (switch_of(), switch_of(([], ON)), switch_of(([], ("lot",)), allot=allot),
                       switch_of(([("staff", "in", [])], share(500)), ([("age", "is", ["a", 5])], ON), allot=allot)):
            self.assert_alike(switch, switch)
            self.assert_alike(switch, copy.deepcopy(switch))

    def test_the_same_faces_by_other_rules(self):
        for one, other in (
                (switch_of(([], ON)), switch_of(rest="on")),
                (switch_of(([], ON)), switch_of(([], ON), ([], ("face", "red")))),
                (switch_of(([], ON)), switch_of(([], share(PLACES)))),
                (switch_of(), switch_of(([], share(0)))), (switch_of(), switch_of(([], ("lot",)))),
                (switch_of(), switch_of(([], ("face", "off")))), (switch_of(), switch_of(([], share(50, "off")))),
                (switch_of(([("age", "has", [])], ON)), switch_of(([("age", "lacks", [])], ("face", "off")), ([], ON))),
                (switch_of(([("age", "least", [18])], ON)), switch_of(([("age", "most", [17])], ("face", "off")), (
                    [("age", "lacks", [])], ("face", "off")), ([("age", "begins", ["a", "b"])], ("face", "off")),
                    ([("age", "least", [18])], ON))),
                (switch_of(([("age", "least", [65])], ON)), switch_of(([("old", "in", [])], ON))),
                (switch_of(([("none", "in", [])], ON)), switch_of(([("all", "out", [])], ON))),
                (switch_of(([("age", "not", [5])], ON)), switch_of(([("age", "is", [5])], ("face", "off")), ([], ON))),
                (switch_of(([("age", "least", [5]), ("age", "most", [5])], ON)), switch_of(([("age", "is", [5])], ON))),
                (switch_of(([("age", "is", ["a", "b"])], ON)), switch_of(([("age", "is", ["b"])], ON), (
                    [("age", "is", ["a"])], ON)))):
            self.assert_alike(one, other)

    def test_the_same_places_by_a_share_and_by_lots(self):
        allot = ([("on", [(0, 50)]), ("red", [])], [(50, PLACES)])
        self.assert_alike(switch_of(([], share(50))), switch_of(([], ("lot",)), allot=allot))
        split = ([("on", [(20, 50), (0, 20)])], [(50, PLACES)])
        self.assert_alike(switch_of(([], ("lot",)), allot=split), switch_of(([], ("lot",)), allot=allot))
        self.assert_alike(switch_of(allot=split), switch_of(allot=BARE))
        self.assert_alike(switch_of(([], ON), ([], ("lot",)), allot=split), switch_of(([], ON)))

    def test_only_at_that_day(self):
        one = switch_of(([], ("share", "on", [(3, 50), (5, 70)])))
        other = switch_of(([], ("share", "on", [(4, 50), (5, 70), (9, 71)])))
        for day in range(12):
            if day in (3, 9, 10, 11):
                self.assert_unlike(one, other, day=day)
            else:
                self.assert_alike(one, other, day=day)

    def test_without_any_marks_that_either_has(self):
        one = switch_of(([("age", "has", []), ("age", "lacks", [])], ON))
        self.assert_alike(one, switch_of())
        self.assert_alike(one, switch_of(([("land", "is", ["a"]), ("land", "is", ["b"])], ("face", "red"))))


class UnlikeTest(TurnsCase):
    def test_the_rest(self):
        self.assert_unlike(switch_of(), switch_of(rest="on"))
        self.assert_unlike(switch_of(([("age", "has", [])], ON)), switch_of(([("age", "has", [])], ON), rest="red"))
        one = switch_of(([], share(10006)))
        for visitor in self.assert_unlike(one, switch_of(([], share(10006)), rest="red")):
            self.assertEqual(reckoned_place("salt", visitor[0]), 10006)

    def test_shares_at_their_ends(self):
        for salt in SALTS:
            for many in (0, 1, 49, 5000, 10005, 10006):
                one = switch_of(([], share(many)), salt=salt)
                other = switch_of(([], share(many + 1)), salt=salt)
                for visitor in self.assert_unlike(one, other):
                    self.assertEqual(reckoned_place(salt, visitor[0]), many)
                self.assert_alike(one, one)

    def test_ranges_at_their_ends(self):
        def lots(runs):
            taken = sorted(place for low, high in runs for place in (low, high))
            free = [pair for pair in zip([0] + taken[1::2], taken[::2] + [PLACES]) if pair[0] < pair[1]]
            return switch_of(([], ("lot",)), allot=([("on", list(runs))], free))
        for one, other, place in (([(5, 9)], [(5, 10)], 9), ([(5, 9)], [(4, 9)], 4), ([(5, 9)], [(6, 9)], 5),
                                  ([(5, 9)], [(5, 8)], 8), ([(0, 9)], [(1, 9)], 0),
                                  ([(9, PLACES)], [(9, 10006)], 10006), ([(0, 20)], [(0, 7), (8, 20)], 7),
                                  ([(30, 40), (5, 9)], [(30, 40), (5, 10)], 9),
                                  ([(30, 40), (5, 9)], [(5, 9), (31, 40)], 30), ([], [(10006, PLACES)], 10006)):
            for visitor in self.assert_unlike(lots(one), lots(other)):
                self.assertEqual(reckoned_place("salt", visitor[0]), place)

    def test_faces_of_an_allotment(self):
        one = switch_of(([], ("lot",)), allot=([("on", [(5, 9)]), ("red", [(9, 15)])], [(0, 5), (15, PLACES)]))
        other = switch_of(([], ("lot",)), allot=([("on", [(5, 10)]), ("red", [(10, 15)])], [(0, 5), (15, PLACES)]))
        for visitor in self.assert_unlike(one, other):
            self.assertEqual(reckoned_place("salt", visitor[0]), 9)

    def test_a_share_against_lots(self):
        one = switch_of(([], share(51)))
        other = switch_of(([], ("lot",)), allot=([("on", [(0, 50)])], [(50, PLACES)]))
        for visitor in self.assert_unlike(one, other):
            self.assertEqual(reckoned_place("salt", visitor[0]), 50)

    def test_a_change_of_shares(self):
        allot = allot_new(["red", "blue"])
        for shares in ([("red", 50)], [("blue", 70)], [("red", 49)], [("red", 51), ("blue", 69)], [("blue", 70)]):
            changed = allot_changed(allot, shares)
            self.assert_unlike(switch_of(([], ("lot",)), allot=allot), switch_of(([], ("lot",)), allot=changed))
            self.assert_alike(switch_of(allot=allot), switch_of(allot=changed))
            allot = changed

    def test_conditions_that_part_one_thing(self):
        for one, other, thing in (
                (("age", "least", [18]), ("age", "least", [19]), 18),
                (("age", "most", [18]), ("age", "most", [19]), 19),
                (("age", "is", [5, 6]), ("age", "is", [6]), 5), (("age", "is", ["a"]), ("age", "is", ["a", ""]), ""),
                (("age", "not", ["a", 5]), ("age", "not", [5]), "a"),
                (("age", "not", ["a"]), ("age", "not", ["a", 5]), 5),
                (("age", "lacks", []), ("age", "not", ["b"]), "any"),
                (("age", "has", []), ("age", "not", ["b"]), None)):
            for visitor in self.assert_unlike(switch_of(([one], ON)), switch_of(([other], ON))):
                if thing is None:
                    self.assertIn(dict(visitor[1]).get("age"), (None, "b"))
                elif thing != "any":
                    self.assertEqual(visitor[1], [("age", thing)])

    def test_conditions_that_part_texts(self):
        for one, other in ((("age", "begins", ["a"]), ("age", "begins", ["a", "b"])),
                           (("age", "begins", ["a"]), ("age", "begins", ["ab"])),
                           (("age", "begins", ["a"]), ("age", "is", ["a"])),
                           (("age", "begins", ["abcdefgh"]), ("age", "is", ["abcdefgh"])),
                           (("age", "begins", ["a"]), ("age", "has", [])), (("age", "is", ["5"]), ("age", "is", [5])),
                           (("age", "begins", ["5"]), ("age", "is", ["5"])),
                           (("age", "lacks", []), ("age", "not", [5])), (("age", "has", []), ("land", "has", []))):
            self.assert_unlike(switch_of(([one], ON)), switch_of(([other], ON)))

    def test_begins_of_which_texts_are_taken(self):
        taken = ["a", "a0", "a1", "a2", "a3", "a4", "a5", "a6", "a7", "a8"]
        one = switch_of(([("age", "begins", ["a"])], ON))
        other = switch_of(([("age", "is", taken)], ON))
        for visitor in self.assert_unlike(one, other):
            self.assertTrue(visitor[1][0][1].startswith("a"))
            self.assertNotIn(visitor[1][0][1], taken)

    def test_marks_on_which_only_one_of_the_two_looks(self):
        one = switch_of(([("age", "least", [18]), ("land", "is", ["nl"])], ON),
                        ([("land", "is", ["nl"])], ("face", "off")))
        other = switch_of(([("mail", "begins", ["a"]), ("age", "least", [18]), ("land", "is", ["nl"])], ON))
        for visitor in self.assert_unlike(one, other):
            marks = dict(visitor[1])
            self.assertEqual(marks["land"], "nl")
            self.assertGreaterEqual(marks["age"], 18)
            self.assertFalse(str(marks.get("mail", "")).startswith("a"))

    def test_groups_that_only_one_of_the_two_names(self):
        self.assert_unlike(switch_of(([("staff", "in", [])], ON)), switch_of(([("old", "in", [])], ON)))
        self.assert_unlike(switch_of(([("staff", "in", [])], ON)), switch_of())
        self.assert_unlike(switch_of(([("staff", "out", [])], ON)), switch_of(([("all", "in", [])], ON)))
        self.assert_unlike(switch_of(([("old", "in", [])], ON)), switch_of(([("age", "least", [64])], ON)))
        self.assert_unlike(switch_of(([("old", "in", [])], ON)), switch_of(([("age", "least", [66])], ON)))

    def test_one_place_for_one_thing(self):
        one = switch_of(([("age", "is", [7]), ("land", "is", ["be"])], share(77)), ([], share(5, "red")))
        other = switch_of(([("age", "is", [7]), ("land", "is", ["be"])], share(78)), ([], share(5, "red")))
        for visitor in self.assert_unlike(one, other):
            self.assertEqual(sorted(visitor[1]), [("age", 7), ("land", "be")])
            self.assertEqual(reckoned_place("salt", visitor[0]), 77)

    def test_many_cells(self):
        # Three cells to the sixth power, and two stretches: 1458.
        conds = [(name, "has", []) for name in SIXTY[:6]]
        rules = [([cond], share(77, "some")) for cond in conds]
        one = switch_of((conds, ON), *rules)
        self.assert_alike(one, switch_of((conds[::-1], ON), *rules[::-1]))
        self.assert_unlike(one, switch_of((conds, ("face", "red")), *rules))
        self.assert_unlike(one, switch_of((conds[1:], ON), *rules))


def random_switch(source):
    pool = [("age", "least", [18]), ("age", "most", [17]), ("age", "is", [5, "old"]), ("age", "lacks", []),
            ("land", "not", ["nl"]), ("land", "begins", ["b"]), ("land", "has", []), ("land", "is", ["be", 7]),
            ("staff", "in", []), ("staff", "out", []), ("all", "in", []), ("none", "out", []), ("old", "in", [])]
    allot = allot_new(["red", "blue"])
    for change in range(2):
        allot = allot_changed(allot, [(face, source.choice([0, 100, 3000, 5003])) for face in ("red", "blue")])
    rules = []
    for number in range(source.randint(0, 4)):
        stages = [(source.randint(0, 3), source.choice([0, 50, 6000, 10007])), (5, source.choice([0, 3000, 9000]))]
        outcome = source.choice([("face", "on"), ("share", "some", stages), ("share", "red", stages), ("lot",)])
        rules.append((source.sample(pool, source.choice([0, 1, 1, 2])), outcome))
    return ("salt", "off", rules, allot)


def changed_switch(source, switch):
    """A switch that differs from another one a little, perhaps for nobody."""
    salt, rest, rules, allot = copy.deepcopy(switch)
    change = source.randrange(5)
    if change == 0 and rules:
        rules.pop(source.randrange(len(rules)))
    elif change == 1 and rules:
        rules.append(source.choice(rules))
    elif change == 2:
        source.shuffle(rules)
    elif change == 3:
        allot = allot_changed(allot, [("red", source.choice([0, 99, 100, 3000]))])
    else:
        more = random_switch(source)[2] + [([], ("lot",))]
        rules.insert(source.randint(0, len(rules)), more[0])
    return (salt, rest, rules, allot)


class AnyTwoTest(TurnsCase):
    def places_to_try(self, one, other, day):
        """The begin of each stretch of places that is alike to both: so every stretch is tried."""
        places = {0}
        for switch in (one, other):
            for conds, outcome in switch[2]:
                if outcome[0] == "share":
                    told = [many for first, many in outcome[2] if first <= day]
                    places.add(told[-1] if told else 0)
            for face, run in switch[3][0]:
                for low, high in run:
                    places.update([low, high])
        return sorted(place for place in places if place < PLACES)

    def found_unlike(self, one, other, day):
        numbers = [BY_PLACE["salt"][place] for place in self.places_to_try(one, other, day)]
        for things in itertools.product(*THINGS.values()):
            marks = [(name, thing) for name, thing in zip(THINGS, things) if thing is not None]
            for number in numbers:
                faces = self.faces_for(GROUPS, one, other, day, (number, marks))
                if faces[0] != faces[1]:
                    return True
        return False

    def test_as_found_by_trying(self):
        source = random.Random(33)
        found = {True: 0, False: 0}
        for step in range(60):
            one = random_switch(source)
            other = random_switch(source) if step % 4 == 0 else changed_switch(source, one)
            day = source.randint(0, 6)
            unlike = self.found_unlike(one, other, day)
            found[unlike] += 1
            if unlike:
                self.assert_unlike(one, other, day=day)
            else:
                self.assert_alike(one, other, day=day)
        self.assertGreater(min(found.values()), 10)


class CountsTest(TurnsCase):
    def assert_counts(self, told, one, other, day=0, marks=(), groups=GROUPS):
        for first, then, rows in ((one, other, told), (other, one, sorted((b, a, many) for a, b, many in told))):
            counts = faces_turned(groups, first, then, day, list(marks))
            self.assertEqual(counts, rows)
            self.assertIs(type(counts), list)
            self.assertEqual([type(row) for row in counts], [tuple] * len(counts))
            self.assertEqual(sum(many for face, face_then, many in counts), PLACES)

    def test_the_same_switch(self):
        self.assert_counts([("off", "off", PLACES)], switch_of(), switch_of())
        switch = switch_of(([], share(50)))
        self.assert_counts([("off", "off", 9957), ("on", "on", 50)], switch, switch)

    def test_all_turned(self):
        self.assert_counts([("off", "on", PLACES)], switch_of(), switch_of(([], ON)))
        self.assert_counts([("off", "on", PLACES)], switch_of(), switch_of(rest="on"))

    def test_shares_at_their_ends(self):
        for many in (0, 1, 49, 5000, 10005, 10006):
            told = [("off", "off", PLACES - many - 1), ("off", "on", 1), ("on", "on", many)]
            self.assert_counts([row for row in told if row[2] > 0], switch_of(([], share(many))),
                               switch_of(([], share(many + 1))))
        self.assert_counts([("off", "on", PLACES)], switch_of(([], share(0))), switch_of(([], share(PLACES))))

    def test_written_out(self):
        one = switch_of(([("age", "has", [])], ("share", "zz", [(2, 10), (3, 0)])), ([], ("lot",)),
                        allot=([("mm", [(5, 15)]), ("zz", [(20, 22)])], [(0, 5), (15, 20), (22, PLACES)]))
        other = switch_of(([], share(12, "aa")), ([], ("lot",)), rest="rest",
                          allot=([("mm", [(21, 30), (0, 4)])], [(4, 21), (30, PLACES)]))
        self.assert_counts([("mm", "aa", 7), ("mm", "rest", 3), ("off", "aa", 5), ("off", "mm", 8),
                            ("off", "rest", 9982), ("zz", "mm", 1), ("zz", "rest", 1)], one, other, 2)
        self.assert_counts([("mm", "aa", 2), ("mm", "rest", 3), ("off", "mm", 8), ("off", "rest", 9982),
                            ("zz", "aa", 10), ("zz", "mm", 1), ("zz", "rest", 1)], one, other, 2, [("age", 5)])

    def test_one_row_for_two_faces(self):
        """One and the same two faces in several stretches and by several rules are counted in one row."""
        one = switch_of(([], ("lot",)), ([], share(500)),
                        allot=([("on", [(800, 900), (0, 5)])], [(5, 800), (900, PLACES)]))
        other = switch_of(([], share(850, "red")), ([], ("lot",)), allot=([("red", [(9000, 9007)])],
                                                                         [(0, 9000), (9007, PLACES)]))
        told = [("off", "off", 9100), ("off", "red", 307), ("on", "off", 50), ("on", "red", 550)]
        self.assert_counts(told, one, other)

    def test_sorted_by_the_faces(self):
        faces = ["b", "a", "zz", "z", "aa", "m"]
        one = switch_of(([], ("lot",)), allot=allot_changed(allot_new(faces), [(face, 1000) for face in faces]))
        other = switch_of(([], ("lot",)), allot=allot_changed(allot_new(faces[::-1]), [(face, 900) for face in faces]))
        told = faces_turned([], one, other, 0, [])
        self.assertEqual(told, sorted(told))
        self.assertGreater(len(told), 9)
        self.assertEqual(len({row[:2] for row in told}), len(told))

    def test_groups_and_marks(self):
        one = switch_of(([("staff", "in", [])], share(700)))
        other = switch_of(([("age", "least", [65])], share(900, "red")))
        self.assert_counts([("off", "off", PLACES)], one, other)
        self.assert_counts([("off", "off", 9307), ("on", "off", 700)], one, other, 0, [("mail", "a1")])
        told = [("off", "off", 9107), ("off", "red", 200), ("on", "red", 700)]
        self.assert_counts(told, one, other, 0, [("age", 65)])
        self.assert_counts([("off", "off", 9107), ("off", "red", 900)], one, other, 0, [("age", 65), ("land", "be")])

    def test_number_by_number(self):
        source = random.Random(34)
        for step in range(12):
            one, other = random_switch(source), random_switch(source)
            marks = [(name, source.choice(THINGS[name])) for name in THINGS]
            marks = [(name, thing) for name, thing in marks if thing is not None]
            day = source.randint(0, 6)
            counts = {}
            for number in range(PLACES):
                faces = self.faces_for(GROUPS, one, other, day, (number, marks))
                counts[faces] = counts.get(faces, 0) + 1
            told = sorted(faces + (many,) for faces, many in counts.items())
            self.assert_counts(told, one, other, day, marks)

    def test_nobody_is_turned_between_switches_that_are_alike(self):
        source = random.Random(35)
        for step in range(40):
            one = random_switch(source)
            other = (one[0], one[1], one[2] + one[2], one[3])
            self.assert_alike(one, other)
            for face, other_face, many in faces_turned(GROUPS, one, other, 0, [("age", 18)]):
                self.assertEqual(face, other_face)


class OwnTest(TurnsCase):
    ONE = switch_of(([("age", "is", ["a", 5]), ("staff", "in", [])], ("share", "on", [(0, 7), (3, 9)])), ([], ("lot",)),
                    allot=([("on", [(5, 9), (0, 2)])], [(2, 5), (9, PLACES)]))
    OTHER = switch_of(([("age", "is", ["a", 5]), ("staff", "in", [])], ("share", "red", [(0, 7), (3, 9)])),
                      ([("land", "has", [])], ("lot",)), allot=([("on", [(5, 9), (0, 2)])], [(2, 5), (9, PLACES)]))

    def told(self, groups, one, other, marks):
        return [switch_turned(groups, one, other, 0), faces_turned(groups, one, other, 0, marks)]

    def fresh(self):
        return [copy.deepcopy(part) for part in (GROUPS, self.ONE, self.OTHER, [("age", 5), ("mail", "ab")])]

    def test_what_is_handed_in_stays_as_it_was(self):
        handed = self.fresh()
        self.told(*handed)
        self.told(handed[0], handed[1], handed[1], handed[3])
        with self.assertRaises(Unlike):
            switch_turned(handed[0], handed[1], switch_of(salt="a"), 0)
        with self.assertRaises(Unlike):
            faces_turned(handed[0], handed[1], switch_of(salt="a"), 0, handed[3])
        self.assertEqual(handed, self.fresh())

    def test_what_was_told_is_the_askers_own(self):
        handed = self.fresh()
        told = self.told(*handed)
        before = copy.deepcopy(told)
        self.assertIsNotNone(told[0])
        again = self.told(*handed)
        again[0][1].append(("more", 5))
        again[1].clear()
        self.assertEqual(handed, self.fresh())
        self.assertEqual(told, before)
        self.assertEqual(self.told(*handed), before)
        for part in handed[1:3]:
            part[2].clear()
            part[3][0].clear()
        handed[0].clear()
        handed[3].clear()
        self.assertEqual(told, before)

    def test_a_visitor_without_marks_is_the_askers_own(self):
        one, other = switch_of(), switch_of(([], ON))
        visitor = switch_turned([], one, other, 0)
        self.assertEqual(visitor[1], [])
        visitor[1].append(("age", 5))
        self.assertEqual(switch_turned([], one, other, 0)[1], [])

    def test_what_was_asked_ahead_changes_nothing(self):
        groups, one, other, marks = self.fresh()
        self.told(groups, one, other, marks)
        one[2].insert(0, ([], ON))
        other[2].insert(0, ([], ON))
        self.assertEqual(self.told(groups, one, other, marks), [None, [("on", "on", PLACES)]])


if __name__ == "__main__":
    unittest.main()
