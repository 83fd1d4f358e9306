"""Points 10 to 12, with 2, 3 and 4: allotments, their shares, and how many places move."""

import copy
import itertools
import random
import unittest

from flagroll.allots import allot_changed, allot_new, face_at, places_moved, shares_of
from flagroll.errors import BadShare, NoFace, RollError, TooMuch, Twice

WHOLE = [(0, 10007)]
LETTERS = "abcdefghijklmnopqrstuvwxyz"
SIXTY = [LETTERS[k // 26] + LETTERS[k % 26] for k in range(60)]


def places_in(run):
    return [place for low, high in run for place in range(low, high)]


def run_of(places):
    run = []
    for place in places:
        if run and run[-1][1] == place:
            run[-1] = (run[-1][0], place + 1)
        else:
            run.append((place, place + 1))
    return run


def reckoned_change(allot, shares):
    """What point 11 tells, reckoned place by place."""
    told = dict(shares)
    rows = [(face, places_in(run)) for face, run in allot[0]]
    free = places_in(allot[1])
    for face, places in rows:
        many = told.get(face, len(places))
        given = places[many:]
        places[many:] = []
        free[:0] = given
    for face, places in rows:
        missing = told.get(face, len(places)) - len(places)
        places.extend(free[:missing])
        free[:missing] = []
    return ([(face, run_of(places)) for face, places in rows], run_of(free))


def faces_told(allot):
    """The face or None at each place, reckoned place by place."""
    faces = {place: None for place in places_in(allot[1])}
    for face, run in allot[0]:
        faces.update({place: face for place in places_in(run)})
    return [faces[place] for place in range(10007)]


def reckoned_moves(one, other):
    return sum(left != right for left, right in zip(faces_told(one), faces_told(other)))


def given_and_taken(before, after):
    given = taken = 0
    for (face, old), (same, new) in zip(before, after):
        given += max(old - new, 0)
        taken += max(new - old, 0)
    return given, taken


def made_shares(source, allot):
    """A list of shares, in any order, that is not refused: small and great ones, 0, all that is left."""
    shares = dict(shares_of(allot))
    faces = source.sample(sorted(shares), source.randint(0, len(shares)))
    for face in faces:
        shares[face] = 0
    for face in faces:
        left = 10007 - sum(shares.values())
        shares[face] = source.choice([0, min(1, left), source.randint(0, left), source.randint(0, left) // 4, left])
    source.shuffle(faces)
    return [(face, shares[face]) for face in faces]


def made_changes(count):
    """Pairs (allotment, shares), each allotment changed from the one ahead."""
    changes = []
    for seed in range(4):
        source = random.Random(seed)
        allot = allot_new(["blue", "red", "on", "off", "a", "zzzzzzzz"][:seed + 3])
        for step in range(count):
            shares = made_shares(source, allot)
            changes.append((allot, shares))
            allot = reckoned_change(allot, shares)
    return changes


class AllotCase(unittest.TestCase):
    def assert_is_allot(self, allot):
        self.assertIs(type(allot), tuple)
        self.assertEqual(len(allot), 2)
        self.assertIs(type(allot[0]), list)
        for row in allot[0]:
            self.assertIs(type(row), tuple)
            self.assertEqual(len(row), 2)
            self.assertIs(type(row[0]), str)
        faces = [face for face, run in allot[0]]
        self.assertEqual(len(set(faces)), len(faces))
        runs = [run for face, run in allot[0]] + [allot[1]]
        for run in runs:
            self.assert_is_run(run)
        self.assertTrue(sorted(place for run in runs for place in places_in(run)) == list(range(10007)))

    def assert_is_run(self, run):
        self.assertIs(type(run), list)
        for pair in run:
            self.assertIs(type(pair), tuple)
            self.assertEqual([type(bound) for bound in pair], [int, int])
            self.assertTrue(0 <= pair[0] < pair[1] <= 10007)
        self.assertTrue(all(run[k][1] != run[k + 1][0] for k in range(len(run) - 1)))

    def assert_refused(self, refusal, ask):
        with self.assertRaises(RollError) as caught:
            ask()
        self.assertIs(type(caught.exception), refusal)


class NewTest(AllotCase):
    def test_no_one_and_many_faces(self):
        self.assertEqual(allot_new([]), ([], WHOLE))
        self.assertEqual(allot_new(["on"]), ([("on", [])], WHOLE))
        self.assertEqual(allot_new(["red", "blue", "a"]), ([("red", []), ("blue", []), ("a", [])], WHOLE))
        self.assertEqual(allot_new(["a", "blue", "red"]), ([("a", []), ("blue", []), ("red", [])], WHOLE))
        self.assertEqual(allot_new(["aaaaaaaa", "z"]), ([("aaaaaaaa", []), ("z", [])], WHOLE))

    def test_sixty_faces_and_one_more(self):
        self.assertEqual(allot_new(SIXTY), ([(face, []) for face in SIXTY], WHOLE))
        self.assertEqual(allot_new(SIXTY + ["zz"])[0][60], ("zz", []))

    def test_the_shape(self):
        for faces in ([], ["on"], ["red", "blue", "a"], SIXTY):
            self.assert_is_allot(allot_new(faces))

    def test_a_face_twice_at_any_place(self):
        for first, second in itertools.combinations(range(6), 2):
            faces = ["one", "two", "three", "four", "five", "six"]
            faces[second] = faces[first]
            before = list(faces)
            self.assert_refused(Twice, lambda: allot_new(faces))
            self.assertEqual(faces, before)
        self.assert_refused(Twice, lambda: allot_new(["on", "on"]))
        self.assert_refused(Twice, lambda: allot_new(["on", "on", "on"]))
        self.assert_refused(Twice, lambda: allot_new(SIXTY[:59] + SIXTY[:1]))

    def test_faces_that_are_nearly_alike(self):
        faces = ["a", "aa", "aaa", "ab", "ba"]
        self.assertEqual([face for face, run in allot_new(faces)[0]], faces)

    def test_two_new_ones_share_no_list(self):
        first = allot_new(["on", "off"])
        second = allot_new(["on", "off"])
        first[0][0][1].append((3, 4))
        first[0].append(("blue", []))
        first[1][0] = (5, 6)
        self.assertEqual(second, ([("on", []), ("off", [])], WHOLE))
        self.assertEqual(allot_new(["on", "off"]), second)

    def test_two_faces_of_one_share_no_list(self):
        rows = allot_new(["on", "off"])[0]
        rows[0][1].append((3, 4))
        self.assertEqual(rows[1], ("off", []))

    def test_the_faces_handed_in_are_not_changed_nor_kept(self):
        faces = ["on", "off"]
        allot = allot_new(faces)
        self.assertEqual(faces, ["on", "off"])
        faces.append("blue")
        faces[0] = "red"
        self.assertEqual(allot, ([("on", []), ("off", [])], WHOLE))
        allot[0].append(("green", []))
        self.assertEqual(faces, ["red", "off", "blue"])


class FaceAtTest(AllotCase):
    def test_first_and_last_and_free_places(self):
        allot = ([("on", [(0, 1), (10006, 10007)]), ("off", [(5, 9), (2, 4)])], [(9, 10006), (1, 2), (4, 5)])
        self.assert_is_allot(allot)
        told = {0: "on", 1: None, 2: "off", 3: "off", 4: None, 5: "off", 8: "off", 9: None, 5000: None,
                10005: None, 10006: "on"}
        for place, face in told.items():
            self.assertEqual(face_at(allot, place), face, place)

    def test_one_face_has_all(self):
        allot = ([("a", []), ("b", WHOLE), ("c", [])], [])
        for place in (0, 1, 5000, 10006):
            self.assertEqual(face_at(allot, place), "b")

    def test_a_new_one_has_no_face_anywhere(self):
        for faces in ([], ["on"], ["on", "off"]):
            for place in (0, 1, 5000, 10006):
                self.assertIsNone(face_at(allot_new(faces), place))

    def test_every_place(self):
        for allot, shares in made_changes(6):
            told = faces_told(allot)
            self.assertTrue([face_at(allot, place) for place in range(10007)] == told)


class SharesTest(AllotCase):
    def test_in_the_rows_order(self):
        self.assertEqual(shares_of(allot_new([])), [])
        self.assertEqual(shares_of(allot_new(["red", "blue"])), [("red", 0), ("blue", 0)])
        allot = ([("red", [(5, 9), (0, 3)]), ("a", []), ("blue", [(9, 10)])], [(10, 10007), (3, 5)])
        self.assertEqual(shares_of(allot), [("red", 7), ("a", 0), ("blue", 1)])
        self.assertEqual(shares_of(([("on", WHOLE)], [])), [("on", 10007)])

    def test_the_shape(self):
        shares = shares_of(allot_new(["red", "blue"]))
        self.assertIs(type(shares), list)
        self.assertEqual([type(pair) for pair in shares], [tuple, tuple])
        self.assertEqual([type(places) for face, places in shares], [int, int])

    def test_they_are_the_askers_own(self):
        allot = allot_changed(allot_new(["on", "off"]), [("on", 5)])
        shares = shares_of(allot)
        shares[0] = ("on", 9)
        shares.append(("blue", 1))
        self.assertEqual(shares_of(allot), [("on", 5), ("off", 0)])


class ChangedTest(AllotCase):
    def test_shares_that_grow(self):
        allot = allot_changed(allot_new(["on", "off"]), [("on", 100)])
        self.assertEqual(allot, ([("on", [(0, 100)]), ("off", [])], [(100, 10007)]))
        allot = allot_changed(allot, [("off", 50)])
        self.assertEqual(allot, ([("on", [(0, 100)]), ("off", [(100, 150)])], [(150, 10007)]))
        allot = allot_changed(allot, [("on", 101)])
        self.assertEqual(allot, ([("on", [(0, 100), (150, 151)]), ("off", [(100, 150)])], [(151, 10007)]))

    def test_shares_that_shrink_and_go_to_0(self):
        allot = ([("on", [(0, 100), (150, 151)]), ("off", [(100, 150)])], [(151, 10007)])
        self.assertEqual(allot_changed(allot, [("on", 100)]),
                         ([("on", [(0, 100)]), ("off", [(100, 150)])], [(150, 10007)]))
        self.assertEqual(allot_changed(allot, [("on", 99)]),
                         ([("on", [(0, 99)]), ("off", [(100, 150)])], [(99, 100), (150, 10007)]))
        self.assertEqual(allot_changed(allot, [("on", 0)]),
                         ([("on", []), ("off", [(100, 150)])], [(0, 100), (150, 10007)]))
        self.assertEqual(allot_changed(allot, [("off", 0)]),
                         ([("on", [(0, 100), (150, 151)]), ("off", [])], [(100, 150), (151, 10007)]))

    def test_shares_that_stay(self):
        allot = ([("on", [(0, 100), (150, 151)]), ("off", [(100, 150)])], [(151, 10007)])
        for shares in ([], [("on", 101)], [("off", 50)], [("on", 101), ("off", 50)], [("off", 50), ("on", 101)]):
            self.assertEqual(allot_changed(allot, shares), allot, shares)

    def test_no_faces_and_no_shares(self):
        self.assertEqual(allot_changed(allot_new([]), []), ([], WHOLE))
        self.assertEqual(allot_changed(allot_new(["on"]), []), ([("on", [])], WHOLE))
        self.assertEqual(allot_changed(allot_new(["on"]), [("on", 0)]), ([("on", [])], WHOLE))

    def test_all_the_places(self):
        self.assertEqual(allot_changed(allot_new(["on", "off"]), [("off", 10007)]),
                         ([("on", []), ("off", WHOLE)], []))
        self.assertEqual(allot_changed(allot_new(["on", "off"]), [("off", 10006), ("on", 1)]),
                         ([("on", [(0, 1)]), ("off", [(1, 10007)])], []))
        allot = ([("on", []), ("off", WHOLE)], [])
        self.assertEqual(allot_changed(allot, [("on", 10007), ("off", 0)]), ([("on", WHOLE), ("off", [])], []))
        self.assertEqual(allot_changed(allot, [("off", 0)]), allot_new(["on", "off"]))

    def test_the_rows_order_counts_and_not_the_lists(self):
        shares = [("a", 10), ("b", 20), ("c", 30)]
        for turned in itertools.permutations(shares):
            self.assertEqual(allot_changed(allot_new(["c", "a", "b"]), list(turned)),
                             ([("c", [(0, 30)]), ("a", [(30, 40)]), ("b", [(40, 60)])], [(60, 10007)]))

    def test_what_is_given_up_lies_ahead_of_all_in_free(self):
        allot = ([("a", [(0, 10)]), ("b", [(20, 30), (10, 20)]), ("c", [(30, 40)])], [(40, 10007)])
        for turned in itertools.permutations([("a", 7), ("b", 5), ("c", 8)]):
            # The later row's lie ahead of the earlier one's, each in their order.
            self.assertEqual(allot_changed(allot, list(turned)),
                             ([("a", [(0, 7)]), ("b", [(20, 25)]), ("c", [(30, 38)])],
                              [(38, 40), (25, 30), (10, 20), (7, 10), (40, 10007)]))

    def test_what_is_given_up_is_taken_first(self):
        allot = ([("a", [(0, 10)]), ("b", [(10, 20)]), ("c", [(20, 30)])], [(30, 10007)])
        self.assertEqual(allot_changed(allot, [("a", 13), ("b", 5), ("c", 26)]),
                         ([("a", [(0, 10), (15, 18)]), ("b", [(10, 15)]), ("c", [(20, 30), (18, 20), (30, 44)])],
                          [(44, 10007)]))
        # The one that shrinks stands behind the one that grows, and gives up first all the same.
        self.assertEqual(allot_changed(allot, [("c", 6), ("a", 12)]),
                         ([("a", [(0, 10), (26, 28)]), ("b", [(10, 20)]), ("c", [(20, 26)])],
                          [(28, 10007)]))

    def test_ranges_that_meet_are_one(self):
        allot = ([("a", [(0, 10)]), ("b", [(10, 20)])], [(20, 10007)])
        self.assertEqual(allot_changed(allot, [("b", 30)]), ([("a", [(0, 10)]), ("b", [(10, 40)])], [(40, 10007)]))
        self.assertEqual(allot_changed(allot, [("b", 4)]), ([("a", [(0, 10)]), ("b", [(10, 14)])], [(14, 10007)]))
        self.assertEqual(allot_changed(allot, [("a", 14), ("b", 0)]), ([("a", [(0, 14)]), ("b", [])], [(14, 10007)]))
        # Two given up that touch, but the later row's lie ahead: they are two.
        self.assertEqual(allot_changed(allot, [("a", 0), ("b", 0)]),
                         ([("a", []), ("b", [])], [(10, 20), (0, 10), (20, 10007)]))

    def test_faces_that_are_not_told_keep_theirs(self):
        allot = ([("a", [(0, 10)]), ("b", [(20, 30), (10, 20)]), ("c", [(30, 40)])], [(40, 10007)])
        changed = allot_changed(allot, [("b", 0)])
        self.assertEqual([changed[0][0], changed[0][2]], [("a", [(0, 10)]), ("c", [(30, 40)])])

    def test_as_reckoned_place_by_place(self):
        for allot, shares in made_changes(60):
            changed = allot_changed(allot, shares)
            self.assertTrue(changed == reckoned_change(allot, shares), shares)
            self.assert_is_allot(changed)
            told = dict(shares_of(allot))
            told.update(shares)
            self.assertEqual(dict(shares_of(changed)), told)

    def test_sixty_faces(self):
        allot = allot_new(SIXTY)
        source = random.Random(7)
        for step in range(10):
            shares = [(face, source.randint(0, 166)) for face in source.sample(SIXTY, 60)]
            changed = allot_changed(allot, shares)
            self.assertTrue(changed == reckoned_change(allot, shares))
            allot = changed
        self.assert_is_allot(allot)

    def test_a_very_split_allotment(self):
        # One place each, in turn: what each face has, and what is free, lies in thousands of ranges.
        allot = ([("a", run_of(range(0, 10007, 3))), ("b", run_of(range(1, 10007, 3)))],
                 run_of(reversed(range(2, 10007, 3))))
        self.assert_is_allot(allot)
        self.assertGreater(len(allot[1]), 3000)
        for shares in ([("a", 10), ("b", 9000)], [("b", 0)], [("a", 5000), ("b", 5007)], [("a", 1)]):
            self.assertTrue(allot_changed(allot, shares) == reckoned_change(allot, shares), shares)
            self.assertEqual(places_moved(allot, allot_changed(allot, shares)),
                             reckoned_moves(allot, reckoned_change(allot, shares)))


class RefusedTest(AllotCase):
    ALLOT = ([("a", [(0, 10)]), ("b", [(10, 30)]), ("c", [])], [(30, 10007)])

    def assert_change_refused(self, refusal, shares, allot=None):
        allot = copy.deepcopy(self.ALLOT if allot is None else allot)
        before = copy.deepcopy((allot, shares))
        self.assert_refused(refusal, lambda: allot_changed(allot, shares))
        self.assertEqual((allot, shares), before)

    def test_no_face(self):
        self.assert_change_refused(NoFace, [("d", 1)])
        self.assert_change_refused(NoFace, [("d", 0)])
        self.assert_change_refused(NoFace, [("aa", 1)])
        self.assert_change_refused(NoFace, [("a", 1), ("b", 2), ("d", 3)])
        self.assert_change_refused(NoFace, [("on", 0)], allot_new([]))

    def test_twice(self):
        for first, second in itertools.combinations(range(4), 2):
            shares = [("a", 1), ("b", 2), ("c", 3), ("d", 4)]
            shares[second] = (shares[first][0], 9)
            self.assert_change_refused(Twice, shares, allot_new(["a", "b", "c", "d"]))
        # Also where both pairs tell the same, or the share that it has already.
        self.assert_change_refused(Twice, [("a", 1), ("a", 1)])
        self.assert_change_refused(Twice, [("a", 10), ("a", 10)])
        self.assert_change_refused(Twice, [("a", 0), ("a", 0)])

    def test_bad_share(self):
        for places in (-1, -2, -10007, -(10 ** 9)):
            for face in ("a", "b", "c"):
                self.assert_change_refused(BadShare, [(face, places)])
        self.assert_change_refused(BadShare, [("a", 1), ("b", 2), ("c", -1)])

    def test_too_much(self):
        self.assert_change_refused(TooMuch, [("a", 10008)], allot_new(["a"]))
        self.assert_change_refused(TooMuch, [("a", 10 ** 9)], allot_new(["a"]))
        self.assert_change_refused(TooMuch, [("a", 10007), ("b", 1)], allot_new(["a", "b"]))
        self.assert_change_refused(TooMuch, [("a", 5004), ("b", 5004)], allot_new(["a", "b"]))
        # The faces that are not told count with what they have.
        self.assert_change_refused(TooMuch, [("a", 9988)])
        self.assert_change_refused(TooMuch, [("c", 9978)])
        self.assert_change_refused(TooMuch, [("a", 10007)])

    def test_just_not_too_much(self):
        self.assertEqual(allot_changed(self.ALLOT, [("a", 9987)])[1], [])
        self.assertEqual(allot_changed(self.ALLOT, [("c", 9977)])[1], [])
        self.assertEqual(allot_changed(self.ALLOT, [("a", 10007), ("b", 0)]),
                         ([("a", WHOLE), ("b", []), ("c", [])], []))

    def test_pair_by_pair(self):
        self.assert_change_refused(NoFace, [("d", 1), ("a", -1)])
        self.assert_change_refused(BadShare, [("a", -1), ("d", 1)])
        self.assert_change_refused(NoFace, [("a", 1), ("d", 1), ("a", 2)])
        self.assert_change_refused(Twice, [("a", 1), ("a", 2), ("d", 1)])
        self.assert_change_refused(Twice, [("a", 1), ("a", 2), ("b", -1)])
        self.assert_change_refused(BadShare, [("a", 1), ("b", -1), ("a", 2)])
        self.assert_change_refused(BadShare, [("a", -1), ("a", 2)])

    def test_the_order_within_one_pair(self):
        self.assert_change_refused(NoFace, [("d", -1)])
        self.assert_change_refused(NoFace, [("a", 1), ("d", -1)])
        self.assert_change_refused(NoFace, [("d", 1), ("d", 1)])
        self.assert_change_refused(Twice, [("a", 1), ("a", -1)])

    def test_too_much_only_where_no_pair_is_refused(self):
        self.assert_change_refused(NoFace, [("a", 10008), ("d", 1)])
        self.assert_change_refused(NoFace, [("d", 10008)])
        self.assert_change_refused(Twice, [("a", 10008), ("a", 1)])
        self.assert_change_refused(Twice, [("a", 1), ("a", 10008)])
        self.assert_change_refused(BadShare, [("a", 10008), ("b", -1)])
        self.assert_change_refused(BadShare, [("a", 10 ** 9), ("b", 10 ** 9), ("c", -(10 ** 9))])

    def test_too_much_is_reckoned_of_all_pairs_together(self):
        # Pair by pair it would be too much at first, in the whole it is not.
        self.assertEqual(shares_of(allot_changed(self.ALLOT, [("a", 10000), ("b", 7)])),
                         [("a", 10000), ("b", 7), ("c", 0)])
        self.assertEqual(shares_of(allot_changed(self.ALLOT, [("c", 10007), ("b", 0), ("a", 0)])),
                         [("a", 0), ("b", 0), ("c", 10007)])


class MovedTest(AllotCase):
    def test_written_out(self):
        one = ([("a", [(0, 10)]), ("b", [(10, 20)])], [(20, 10007)])
        other = ([("a", [(0, 8), (10, 11)]), ("b", [(11, 20), (8, 9)])], [(9, 10), (20, 10007)])
        self.assertEqual(places_moved(one, other), 3)
        self.assertEqual(places_moved(other, one), 3)

    def test_an_allotment_and_itself(self):
        for allot, shares in made_changes(5):
            self.assertEqual(places_moved(allot, allot), 0)
            self.assertEqual(places_moved(allot, copy.deepcopy(allot)), 0)

    def test_other_faces(self):
        one = ([("a", [(0, 10)])], [(10, 10007)])
        self.assertEqual(places_moved(one, ([("b", [(0, 10)])], [(10, 10007)])), 10)
        self.assertEqual(places_moved(one, ([], WHOLE)), 10)
        self.assertEqual(places_moved(([], WHOLE), one), 10)
        self.assertEqual(places_moved(one, ([("a", WHOLE)], [])), 9997)
        self.assertEqual(places_moved(([("a", WHOLE)], []), ([("b", WHOLE)], [])), 10007)
        self.assertEqual(places_moved(([], WHOLE), ([("b", [])], WHOLE)), 0)
        self.assertEqual(places_moved(one, ([("b", [(5, 10)]), ("a", [(0, 5)])], [(10, 10007)])), 5)

    def test_another_order_of_faces_or_places(self):
        one = ([("a", [(0, 10)]), ("b", [(10, 20)])], [(20, 10007)])
        self.assertEqual(places_moved(one, ([("b", [(10, 20)]), ("a", [(0, 10)])], [(20, 10007)])), 0)
        self.assertEqual(places_moved(one, ([("b", [(0, 10)]), ("a", [(10, 20)])], [(20, 10007)])), 20)
        self.assertEqual(places_moved(one, ([("a", [(5, 10), (0, 5)]), ("b", [(10, 20)])],
                                            [(9000, 10007), (20, 9000)])), 0)

    def test_the_same_turned_about(self):
        allots = [allot for allot, shares in made_changes(8)]
        for one, other in zip(allots, reversed(allots)):
            moved = places_moved(one, other)
            self.assertIs(type(moved), int)
            self.assertEqual(moved, places_moved(other, one))
            self.assertEqual(moved, reckoned_moves(one, other))

    def test_the_first_and_last_place_count(self):
        one = ([("a", WHOLE)], [])
        self.assertEqual(places_moved(one, ([("a", [(1, 10007)])], [(0, 1)])), 1)
        self.assertEqual(places_moved(one, ([("a", [(0, 10006)])], [(10006, 10007)])), 1)


class FewestMovesTest(AllotCase):
    def test_as_many_as_must(self):
        for allot, shares in made_changes(40):
            changed = allot_changed(allot, shares)
            given, taken = given_and_taken(shares_of(allot), shares_of(changed))
            self.assertEqual(reckoned_moves(allot, changed), max(given, taken), shares)
            self.assertEqual(places_moved(allot, changed), max(given, taken), shares)

    def test_more_given_more_taken_and_as_many(self):
        allot = ([("a", [(0, 100)]), ("b", [(100, 200)])], [(200, 10007)])
        for shares, moved in (([("a", 40), ("b", 110)], 60), ([("a", 90), ("b", 150)], 50),
                              ([("a", 0), ("b", 200)], 100), ([("a", 0), ("b", 0)], 200),
                              ([("a", 101), ("b", 101)], 2), ([], 0)):
            self.assertEqual(places_moved(allot, allot_changed(allot, shares)), moved, shares)

    def test_whose_share_grows_keeps_all_its_places(self):
        for allot, shares in made_changes(40):
            changed = allot_changed(allot, shares)
            for (face, old), (same, new) in zip(allot[0], changed[0]):
                old_places, new_places = places_in(old), places_in(new)
                shorter = min(len(old_places), len(new_places))
                self.assertTrue(old_places[:shorter] == new_places[:shorter], face)

    def test_one_face_changed_time_and_again(self):
        for seed in range(3):
            source = random.Random(seed)
            allot = allot_changed(allot_new(["a", "b", "c"]), [("a", 3000), ("c", 2000)])
            allot = allot_changed(allot, [("a", 1000), ("b", 3500), ("c", 2500)])
            seen = {}
            for step in range(60):
                share = source.choice([0, 1, 500, 3499, 3500, 3501, 6507])
                allot = allot_changed(allot, [("b", share)])
                self.assertEqual(seen.setdefault(share, allot), allot, share)
            self.assertEqual(len(seen), 7)

    def test_shrunk_and_grown_again_it_is_the_same_visitors(self):
        first = allot_changed(allot_new(["on", "off"]), [("off", 100), ("on", 2000)])
        shrunk = allot_changed(first, [("on", 10)])
        self.assertEqual([face_at(shrunk, place) for place in (0, 9, 10, 1999)], ["on", "on", None, None])
        self.assertEqual(allot_changed(shrunk, [("on", 2000)]), first)


class OwnTest(AllotCase):
    def spoilt(self, allot):
        for row in allot[0]:
            row[1].append((1, 2))
            row[1][0] = (8, 9)
        allot[0].append(("new", []))
        allot[0][0] = ("other", [])
        allot[1].append((1, 2))
        allot[1][0] = (8, 9)

    def asked(self):
        """Allotments with shares that change all, some or none of the faces, and leave runs empty and full."""
        bare = [([], WHOLE), ([], [(5, 10007), (0, 5)])]
        allot = ([("a", [(0, 10)]), ("b", [(20, 30), (10, 20)]), ("c", [])], [(30, 10007)])
        full = ([("a", WHOLE), ("b", []), ("c", [])], [])
        changes = [[], [("a", 10)], [("a", 5)], [("a", 15)], [("b", 0)], [("b", 20), ("a", 10), ("c", 0)],
                   [("a", 0), ("b", 0), ("c", 10007)], [("c", 1)]]
        asked = [(allot, shares) for shares in changes] + [(faceless, []) for faceless in bare]
        return asked + [(full, shares) for shares in ([], [("a", 10007)], [("a", 0)], [("a", 1), ("c", 2)])]

    def test_what_is_handed_in_stays_as_it_was(self):
        for allot, shares in self.asked():
            handed = copy.deepcopy((allot, shares))
            allot_changed(handed[0], handed[1])
            shares_of(handed[0])
            face_at(handed[0], 15)
            places_moved(handed[0], handed[0])
            self.assertEqual(handed, (allot, shares))

    def test_what_is_done_to_what_was_told_changes_nothing_handed_in(self):
        for allot, shares in self.asked():
            handed = copy.deepcopy((allot, shares))
            self.spoilt(allot_changed(handed[0], handed[1]))
            self.assertEqual(handed, (allot, shares))

    def test_what_is_done_to_what_was_handed_in_changes_nothing_told(self):
        for allot, shares in self.asked():
            handed = copy.deepcopy((allot, shares))
            told = allot_changed(handed[0], handed[1])
            self.spoilt(handed[0])
            handed[1].append(("a", 3))
            self.assertEqual(told, reckoned_change(allot, shares))

    def test_what_is_asked_later_changes_nothing_told(self):
        for allot, shares in self.asked():
            handed = copy.deepcopy((allot, shares))
            told = allot_changed(handed[0], handed[1])
            self.spoilt(allot_changed(handed[0], handed[1]))
            self.spoilt(allot_changed(told, []))
            self.assertEqual(told, reckoned_change(allot, shares))


if __name__ == "__main__":
    unittest.main()
