"""Points 36 and 37, with 2, 3 and 4: trees of machines, turns and lost links."""

import copy
import itertools
import random
import unittest

from flagroll.books import Book
from flagroll.copies import Copy
from flagroll.errors import (BadDeed, BadTree, NoFace, NoHold, NoMachine, NoSalt, NoSwitch, Ringed, RollError, TooMuch,
                             Twice)
from flagroll.trees import Tree

PLACES = 10007

DEEP = []
for depth in range(5000):
    DEEP = [DEEP]

NO_PARENTS = [-1, -2, -(10 ** 9), -(10 ** 5000), 10 ** 5000, "", "0", "1", "a", "\ud800", True, False, None, [], [0],
              [[0]], (), (0,), (0, 1), DEEP, (DEEP,)]

FAR_NUMBERS = [10 ** 9, 10 ** 5000, -(10 ** 9), -(10 ** 5000)]


def put(name, salt="salt", rest="off", faces=("on", "blue")):
    return ("put", name, salt, rest, list(faces))


def always(face="on"):
    return [([], ("face", face))]


# What is answered is another thing behind each of them.
DEEDS = [put("one"), ("rules", "one", always()), ("stop", "one"), ("go", "one"), ("rules", "one", always("blue")),
         ("hold", "some", "a", PLACES, ["one"]), ("free", "some"), put("two"), ("needs", "one", [("two", "on")]),
         ("rules", "two", always()), ("needs", "one", []), ("drop", "one"), put("one", "other", "red", []),
         ("stop", "one"), ("group", "staff", [[]]), ("rules", "two", [([("staff", "in", [])], ("face", "gold"))]),
         ("group", "staff", []), ("shares", "two", [("on", 5000)]), ("rules", "two", [([], ("lot",))]), ("drop", "two")]

SHAPES = {"none": [], "alone": [0], "row": [0, 1, 2, 3, 4], "star": [0, 0, 0, 0, 0], "pair": [0, 1],
          "mixed": [0, 0, 1, 1, 2, 3, 3, 6, 0, 8], "twigs": [0, 1, 1, 3, 3, 5, 5]}


def way_of(parents, machine):
    """The machines from this one up to the house, without it: one for each link on the way."""
    way = []
    while machine != 0:
        way.append(machine)
        machine = parents[machine - 1]
    return way


class Reckoned:
    """A tree as point 36 tells of it: each machine keeps the very deeds that it has done."""

    def __init__(self, parents):
        self.parents = list(parents)
        self.deeds = [[] for machine in range(len(parents) + 1)]

    def change(self, deed):
        self.deeds[0].append(copy.deepcopy(deed))

    def turn(self, lost=()):
        begun = copy.deepcopy(self.deeds)
        for machine, parent in enumerate(self.parents, start=1):
            if machine not in lost:
                self.deeds[machine] += begun[parent][len(self.deeds[machine]):]


def spoil(thing):
    """Another content in each list within, at every depth."""
    if isinstance(thing, (list, tuple)):
        for part in list(thing):
            spoil(part)
    if isinstance(thing, list):
        thing.append("spoilt")
        thing.reverse()


class TreeCase(unittest.TestCase):
    def assert_same(self, tree, reckoned):
        """Depth, moment and answers of the house and of each machine."""
        for machine in range(len(reckoned.parents) + 1):
            self.assertEqual(tree.depth_of(machine), len(way_of(reckoned.parents, machine)))
            self.assert_machine(tree, machine, reckoned.deeds[machine])

    def assert_machine(self, tree, machine, deeds):
        moment = tree.moment_of(machine)
        self.assertEqual(moment, len(deeds), machine)
        self.assertIs(type(moment), int)
        known = Copy()
        known.take(1, copy.deepcopy(deeds))
        for name, visitor in itertools.product(("one", "two", "three"), ((5, []), (4000, [("age", 5)]))):
            try:
                told = known.answer_now(0, visitor, name)
            except NoSwitch:
                self.assert_refused(NoSwitch, lambda: tree.answer_of(machine, 0, visitor, name))
                continue
            answered = tree.answer_of(machine, 0, visitor, name)
            self.assertEqual(answered, told)
            self.assertIs(type(answered), tuple)

    def assert_refused(self, refusal, asked):
        with self.assertRaises(RollError) as caught:
            asked()
        self.assertIs(type(caught.exception), refusal)


class ParentsTest(TreeCase):
    def assert_bad(self, parents):
        self.assert_refused(BadTree, lambda: Tree(parents))

    def test_no_machine(self):
        tree = Tree([])
        self.assertEqual(tree.depth_of(0), 0)
        self.assertEqual(tree.moment_of(0), 0)
        self.assertIsNone(tree.turn())
        self.assertEqual(tree.change(put("one")), 1)
        self.assertIsNone(tree.turn([]))
        self.assertEqual(tree.moment_of(0), 1)
        self.assertEqual(tree.answer_of(0, 0, (5, []), "one"), ("off", ("rest",), 1))

    def test_all_small_trees(self):
        for many in range(6):
            for parents in itertools.product(*[range(k + 1) for k in range(many)]):
                tree = Tree(list(parents))
                for machine in range(many + 1):
                    depth = tree.depth_of(machine)
                    self.assertEqual(depth, len(way_of(parents, machine)))
                    self.assertIs(type(depth), int)
                    self.assertEqual(tree.moment_of(machine), 0)

    def test_all_small_lists_of_numbers(self):
        for many in range(5):
            for parents in itertools.product(range(-1, many + 2), repeat=many):
                if all(0 <= parent <= k for k, parent in enumerate(parents)):
                    Tree(list(parents))
                else:
                    self.assert_bad(list(parents))

    def test_no_parents_at_any_place(self):
        for parents in SHAPES.values():
            for place in range(len(parents) + 1):
                for bad in NO_PARENTS + [place + 1, place + 2, 60]:
                    self.assert_bad(parents[:place] + [bad] + parents[place:])
                    self.assert_bad(parents[:place] + [bad] + parents[place + 1:])

    def test_the_own_number_and_beyond(self):
        for many in range(1, 61):
            parents = list(range(many))
            self.assert_bad(parents[:-1] + [many])
            self.assert_bad(parents[:-1] + [many + 1])
            self.assert_bad([1] + parents[1:])
            self.assertEqual(Tree(parents).depth_of(many), many)

    def test_sixty_machines(self):
        for parents in ([0] * 60, list(range(60)), [k // 2 for k in range(60)], [max(k - 7, 0) for k in range(60)]):
            tree = Tree(parents)
            for machine in range(61):
                self.assertEqual(tree.depth_of(machine), len(way_of(parents, machine)))


class ChangeTest(TreeCase):
    def test_moments(self):
        for parents in SHAPES.values():
            tree = Tree(parents)
            for number, deed in enumerate(DEEDS, start=1):
                moment = tree.change(deed)
                self.assertEqual(moment, number)
                self.assertIs(type(moment), int)
                self.assertEqual(tree.moment_of(0), number)
                for machine in range(1, len(parents) + 1):
                    self.assertEqual(tree.moment_of(machine), 0)
                    self.assert_refused(NoSwitch, lambda: tree.answer_of(machine, 0, (5, []), "one"))

    def test_refusals(self):
        parents = [0, 1]
        tree, reckoned = Tree(parents), Reckoned(parents)
        begin = [put("one"), put("two"), ("hold", "some", "a", 5, ["two"]), ("needs", "one", [("two", "on")])]
        for step in range(3):
            for refusal, deed in (
                    (BadDeed, ("puts", "one")), (BadDeed, (DEEP, "one")), (BadDeed, (None,)), (NoHold, ("free", "one")),
                    (NoSwitch, ("drop", "three")), (NoSalt, put("more", DEEP)), (Twice, put("more", faces="aa"))):
                self.assert_refused(refusal, lambda: tree.change(deed))
                self.assert_same(tree, reckoned)
            if step == 0:
                for deed in begin:
                    tree.change(deed)
                    reckoned.change(deed)
            for refusal, deed in ((Twice, put("one")), (Twice, ("hold", "some", "a", 5, None)),
                                  (NoSwitch, ("drop", "two")), (NoFace, ("shares", "one", [("red", 5)])),
                                  (TooMuch, ("shares", "one", [("on", 10008)])),
                                  (Ringed, ("needs", "two", [("one", "on")]))):
                self.assert_refused(refusal, lambda: tree.change(deed))
                self.assert_same(tree, reckoned)
            tree.turn()
            reckoned.turn()
            self.assert_same(tree, reckoned)


class NoMachineTest(TreeCase):
    def test_numbers_that_are_no_machines(self):
        for parents in SHAPES.values():
            tree = Tree(parents)
            tree.change(put("one"))
            for number in [-1, -2, -len(parents), -len(parents) - 1, len(parents) + 1, len(parents) + 2] + FAR_NUMBERS:
                if number == 0:
                    continue
                self.assert_refused(NoMachine, lambda: tree.depth_of(number))
                self.assert_refused(NoMachine, lambda: tree.moment_of(number))
                for name in ("one", "nobody"):
                    self.assert_refused(NoMachine, lambda: tree.answer_of(number, 0, (5, []), name))

    def test_turns_with_numbers_that_are_no_machines(self):
        for parents in SHAPES.values():
            many = len(parents)
            tree, reckoned = Tree(parents), Reckoned(parents)
            tree.change(DEEDS[0])
            reckoned.change(DEEDS[0])
            machines = list(range(1, many + 1))
            for number in [0, -1, -many - 1, many + 1, many + 2] + FAR_NUMBERS:
                for lost in ([number], [number, number], machines + [number], [number] + machines,
                             machines[:1] + [number] + machines[1:]):
                    self.assert_refused(NoMachine, lambda: tree.turn(lost))
                    self.assert_same(tree, reckoned)
            tree.turn()
            reckoned.turn()
            self.assert_same(tree, reckoned)

    def test_no_such_switch(self):
        tree = Tree([0, 1])
        tree.change(put("one"))
        tree.turn()
        for machine, name in ((0, "two"), (1, "two"), (2, "two"), (2, "one"), (0, "off"), (1, "")):
            self.assert_refused(NoSwitch, lambda: tree.answer_of(machine, 0, (5, []), name))


class TurnTest(TreeCase):
    def test_in_a_row(self):
        parents = [0, 1, 2, 3]
        tree = Tree(parents)
        tree.change(put("one"))
        tree.change(("rules", "one", always()))
        moments = [[2, 2, 0, 0, 0], [2, 2, 2, 0, 0], [3, 2, 2, 2, 0], [3, 3, 2, 2, 2], [3, 3, 3, 2, 2],
                   [3, 3, 3, 3, 2], [3, 3, 3, 3, 3], [3, 3, 3, 3, 3]]
        for number, told in enumerate(moments):
            self.assertIsNone(tree.turn())
            if number == 2:
                tree.change(("stop", "one"))
            self.assertEqual([tree.moment_of(machine) for machine in range(5)], told)
            for machine, moment in enumerate(told):
                if moment == 0:
                    self.assert_refused(NoSwitch, lambda: tree.answer_of(machine, 0, (5, []), "one"))
                else:
                    answered = ("on", ("rule", 0), 2) if moment == 2 else ("off", ("stopped",), 3)
                    self.assertEqual(tree.answer_of(machine, 0, (5, []), "one"), answered)

    def test_as_a_star(self):
        tree = Tree([0] * 5)
        for number, deed in enumerate(DEEDS, start=1):
            tree.change(deed)
            self.assertEqual([tree.moment_of(machine) for machine in range(6)], [number] + [number - 1] * 5)
            tree.turn()
            self.assertEqual([tree.moment_of(machine) for machine in range(6)], [number] * 6)

    def test_lost_links(self):
        tree = Tree([0, 0, 1, 1, 2])
        tree.change(put("one"))
        for lost, told in (([1], [0, 1, 0, 0, 0]), ([5], [1, 1, 0, 0, 0]), ([3, 5], [1, 1, 0, 1, 0]),
                           ([4, 1], [1, 1, 1, 1, 1])):
            self.assertIsNone(tree.turn(lost))
            self.assertEqual([tree.moment_of(machine) for machine in range(1, 6)], told)

    def test_a_lost_link_does_not_hold_up_what_is_below_it(self):
        tree = Tree([0, 1])
        tree.change(put("one"))
        tree.turn()
        tree.change(("stop", "one"))
        tree.turn([1])
        self.assertEqual([tree.moment_of(machine) for machine in range(3)], [2, 1, 1])
        tree.turn([2])
        self.assertEqual([tree.moment_of(machine) for machine in range(3)], [2, 2, 1])

    def test_each_set_of_lost_links(self):
        parents = SHAPES["twigs"]
        for many in range(len(parents) + 1):
            for lost in itertools.combinations(range(1, len(parents) + 1), many):
                tree, reckoned = Tree(parents), Reckoned(parents)
                for step, told in enumerate(((), (), lost, (), lost, ())):
                    tree.change(DEEDS[step])
                    reckoned.change(DEEDS[step])
                    tree.turn(list(told))
                    reckoned.turn(told)
                    moments = [tree.moment_of(machine) for machine in range(len(parents) + 1)]
                    self.assertEqual(moments, [len(deeds) for deeds in reckoned.deeds])

    def test_none_and_no_links(self):
        for parents in SHAPES.values():
            trees = [Tree(parents) for number in range(3)]
            for deed in DEEDS[:6]:
                for tree in trees:
                    tree.change(deed)
                self.assertIsNone(trees[0].turn())
                self.assertIsNone(trees[1].turn(None))
                self.assertIsNone(trees[2].turn([]))
                for machine in range(len(parents) + 1):
                    self.assertEqual(len({tree.moment_of(machine) for tree in trees}), 1)

    def test_the_same_one_twice(self):
        for parents in SHAPES.values():
            tree, reckoned = Tree(parents), Reckoned(parents)
            for step, deed in enumerate(DEEDS[:8]):
                tree.change(deed)
                reckoned.change(deed)
                lost = [machine for machine in range(1, len(parents) + 1) if (machine + step) % 3 == 0]
                tree.turn(lost + lost[::-1] + lost)
                reckoned.turn(lost)
                self.assert_same(tree, reckoned)

    def test_all_links_lost(self):
        for parents in SHAPES.values():
            tree, reckoned = Tree(parents), Reckoned(parents)
            for deed in DEEDS[:5]:
                tree.change(deed)
                reckoned.change(deed)
                tree.turn(list(range(1, len(parents) + 1)))
                self.assert_same(tree, reckoned)
            for turn in range(6):
                tree.turn()
                reckoned.turn()
                self.assert_same(tree, reckoned)

    def test_turns_without_deeds(self):
        for parents in SHAPES.values():
            tree = Tree(parents)
            for turn in range(4):
                tree.turn()
                self.assert_same(tree, Reckoned(parents))

    def test_each_shape_behind_each_turn(self):
        source = random.Random(36)
        for parents in SHAPES.values():
            tree, reckoned = Tree(parents), Reckoned(parents)
            for deed in DEEDS:
                tree.change(deed)
                reckoned.change(deed)
                self.assert_same(tree, reckoned)
                for turn in range(source.randint(0, 2)):
                    lost = [machine for machine in range(1, len(parents) + 1) if source.random() < 0.3]
                    tree.turn(lost)
                    reckoned.turn(lost)
                    self.assert_same(tree, reckoned)


class SeenInTimeTest(TreeCase):
    """Point 37: what the house had done when a turn began is seen by each machine in time."""

    def assert_seen(self, parents, turns, moments, seen):
        """Turns: the links lost in each; moments: the house's as each began; seen: each machine's behind each."""
        for begin in range(len(turns)):
            for machine in range(1, len(parents) + 1):
                way = way_of(parents, machine)
                for end in range(begin + 1, len(turns) + 1):
                    lost = sum(len(set(way) & set(told)) for told in turns[begin:end])
                    if end - begin >= len(way) + lost:
                        self.assertGreaterEqual(seen[end - 1][machine], moments[begin], (machine, begin, end))

    def run_turns(self, parents, turns, deeds_ahead):
        tree = Tree(parents)
        moments, seen, done = [], [], 0
        for lost, many in zip(turns, deeds_ahead):
            for deed in range(many):
                tree.change(put("one") if done == 0 else (("stop", "go")[done % 2], "one"))
                done += 1
            moments.append(tree.moment_of(0))
            tree.turn(lost)
            seen.append([tree.moment_of(machine) for machine in range(len(parents) + 1)])
        self.assert_seen(parents, turns, moments, seen)
        return seen

    def test_no_links_lost(self):
        for parents in SHAPES.values():
            seen = self.run_turns(parents, [[]] * 8, [1] * 8)
            for turn, told in enumerate(seen, start=1):
                depths = [len(way_of(parents, machine)) for machine in range(len(parents) + 1)]
                self.assertEqual(told, [turn] + [max(turn - depth + 1, 0) for depth in depths[1:]])

    def test_links_lost(self):
        source = random.Random(37)
        for parents in SHAPES.values():
            for step in range(12):
                turns = [[machine for machine in range(1, len(parents) + 1) if source.random() < 0.25]
                         for turn in range(14)]
                self.run_turns(parents, turns, [source.choice([0, 0, 1, 3]) for turn in turns])

    def test_a_stop_is_seen_as_soon_as_it_must(self):
        parents = [0, 1, 2]
        tree = Tree(parents)
        tree.change(put("one"))
        tree.change(("rules", "one", always()))
        for turn in range(3):
            tree.turn()
        tree.change(("stop", "one"))
        for lost, seen in (([], [1]), ([2], [1]), ([2], [1]), ([3], [1, 2]), ([3], [1, 2]), ([], [1, 2, 3])):
            tree.turn(lost)
            for machine in (1, 2, 3):
                face = "off" if machine in seen else "on"
                self.assertEqual(tree.answer_of(machine, 0, (5, []), "one")[0], face)


class OwnTest(TreeCase):
    def test_what_is_handed_in_stays_as_it_was(self):
        parents, lost, deeds = [0, 1, 1], [2, 2, 1], copy.deepcopy(DEEDS)
        tree = Tree(parents)
        for deed in deeds:
            tree.change(deed)
            tree.turn(lost)
            tree.turn()
        self.assert_refused(NoMachine, lambda: tree.turn([1, 5]))
        self.assertEqual((parents, lost, deeds), ([0, 1, 1], [2, 2, 1], DEEDS))
        bad = [0, 5, "a"]
        self.assert_refused(BadTree, lambda: Tree(bad))
        self.assertEqual(bad, [0, 5, "a"])

    def test_parents_that_are_changed_afterwards(self):
        for change in (lambda parents: parents.clear(), lambda parents: parents.append(0),
                       lambda parents: parents.reverse(), lambda parents: parents.insert(0, "spoilt")):
            parents = [0, 1, 2, 2]
            tree, reckoned = Tree(parents), Reckoned(parents)
            change(parents)
            for deed in DEEDS[:6]:
                tree.change(deed)
                reckoned.change(deed)
                tree.turn([2])
                reckoned.turn([2])
                tree.turn()
                reckoned.turn()
                self.assert_same(tree, reckoned)
            self.assert_refused(NoMachine, lambda: tree.moment_of(5))

    def test_deeds_and_lost_links_that_are_changed_afterwards(self):
        parents = [0, 1, 0]
        tree, reckoned = Tree(parents), Reckoned(parents)
        for number, deed in enumerate(DEEDS):
            handed, lost = copy.deepcopy(deed), [number % 3 + 1]
            tree.change(handed)
            spoil(handed)
            tree.turn(lost)
            lost.clear()
            reckoned.change(deed)
            reckoned.turn([number % 3 + 1])
            self.assert_same(tree, reckoned)

    def test_visitors_are_not_changed_and_not_kept(self):
        tree = Tree([0])
        tree.change(put("one"))
        tree.change(("rules", "one", [([("age", "has", [])], ("face", "on"))]))
        tree.turn()
        for machine in (0, 1):
            visitor = (5, [("age", 18)])
            self.assertEqual(tree.answer_of(machine, 0, visitor, "one"), ("on", ("rule", 0), 2))
            self.assertEqual(visitor, (5, [("age", 18)]))
            visitor[1].clear()
            self.assertEqual(tree.answer_of(machine, 0, visitor, "one"), ("off", ("rest",), 2))

    def test_asking_changes_nothing(self):
        parents = [0, 1]
        tree, reckoned = Tree(parents), Reckoned(parents)
        for deed in DEEDS[:4]:
            tree.change(deed)
            reckoned.change(deed)
            for again in range(3):
                self.assert_same(tree, reckoned)
            tree.turn()
            reckoned.turn()

    def test_trees_side_by_side(self):
        parents = [0, 1, 1]
        one, other, book = Tree(parents), Tree(parents), Book()
        for number, deed in enumerate(DEEDS, start=1):
            one.change(deed)
            one.turn()
            self.assertEqual(other.moment_of(0), 0)
            self.assertEqual(book.moment(), 0)
        other.change(put("one"))
        for turn in range(3):
            other.turn()
        self.assertEqual([other.moment_of(machine) for machine in range(4)], [1, 1, 1, 1])
        self.assertEqual([one.moment_of(machine) for machine in range(4)], [20, 20, 19, 19])


class ManyTest(TreeCase):
    def test_three_hundred_deeds_and_sixty_machines(self):
        parents = [k // 2 for k in range(60)]
        tree, book = Tree(parents), Book()
        deeds = [put("one"), ("rules", "one", [([], ("lot",))])]
        deeds = deeds + [("shares", "one", [("on", k * 37 % 5000), ("blue", k * 53 % 5000)]) for k in range(298)]
        moments = []
        for deed in deeds:
            book.change(deed)
            tree.change(deed)
            moments.append(tree.moment_of(0))
            tree.turn()
        for machine in range(1, 61):
            moment = moments[-len(way_of(parents, machine))]
            for number in (0, 5, 4000):
                self.assertEqual(tree.answer_of(machine, 0, (number, []), "one"),
                                 book.answer_at(0, (number, []), "one", moment) + (moment,))


if __name__ == "__main__":
    unittest.main()
