"""Points 8 and 9, with 2 and 3: runs, parted, joined and looked up."""

import random
import unittest

from flagroll.runs import run_at, run_index, run_joined, run_parted, run_size

WHOLE = [(0, 10007)]

# Ranges rising, falling and mixed; ranges of one place; ranges that touch but not in this order.
RUNS = [
    [],
    WHOLE,
    [(0, 1)],
    [(10006, 10007)],
    [(5, 9)],
    [(0, 3), (5, 9)],
    [(5, 9), (0, 3)],
    [(5, 9), (0, 5)],
    [(5, 9), (3, 5), (9, 12)],
    [(10006, 10007), (0, 1), (5000, 5001)],
    [(7, 8), (6, 7), (5, 6), (4, 5)],
    [(100, 200), (50, 60), (300, 301), (0, 20), (250, 300)],
]


def places_in(run):
    return [place for low, high in run for place in range(low, high)]


def run_of(places):
    run = []
    for place in places:
        if run and run[-1][1] == place:
            run[-1] = (run[-1][0], place + 1)
        else:
            run.append((place, place + 1))
    return run


def made_runs(count):
    source = random.Random(20)
    runs = []
    for step in range(count):
        bounds = sorted(source.sample(range(60), 2 * source.randint(1, 8)))
        ranges = [(bounds[2 * k], bounds[2 * k + 1]) for k in range(len(bounds) // 2)]
        source.shuffle(ranges)
        runs.append(run_of(places_in(ranges)))
    return runs


class RunCase(unittest.TestCase):
    def assert_is_run(self, run):
        self.assertIs(type(run), list)
        for pair in run:
            self.assertIs(type(pair), tuple)
            self.assertEqual([type(bound) for bound in pair], [int, int])
            self.assertTrue(0 <= pair[0] < pair[1] <= 10007, run)
        self.assertTrue(all(run[k][1] != run[k + 1][0] for k in range(len(run) - 1)), run)
        self.assertEqual(len(set(places_in(run))), len(places_in(run)), run)


class SizeTest(RunCase):
    def test_sizes(self):
        self.assertEqual(run_size([]), 0)
        self.assertEqual(run_size(WHOLE), 10007)
        self.assertEqual(run_size([(5, 9), (0, 3)]), 7)
        self.assertEqual(run_size([(10006, 10007)]), 1)
        for run in RUNS + made_runs(100):
            self.assertEqual(run_size(run), len(places_in(run)), run)
            self.assertIs(type(run_size(run)), int)


class PartedTest(RunCase):
    def test_parted_written_out(self):
        run = [(5, 9), (0, 3)]
        self.assertEqual(run_parted(run, 0), ([], [(5, 9), (0, 3)]))
        self.assertEqual(run_parted(run, 1), ([(5, 6)], [(6, 9), (0, 3)]))
        self.assertEqual(run_parted(run, 4), ([(5, 9)], [(0, 3)]))
        self.assertEqual(run_parted(run, 5), ([(5, 9), (0, 1)], [(1, 3)]))
        self.assertEqual(run_parted(run, 7), ([(5, 9), (0, 3)], []))

    def test_the_run_without_places(self):
        self.assertEqual(run_parted([], 0), ([], []))

    def test_the_whole(self):
        self.assertEqual(run_parted(WHOLE, 0), ([], [(0, 10007)]))
        self.assertEqual(run_parted(WHOLE, 1), ([(0, 1)], [(1, 10007)]))
        self.assertEqual(run_parted(WHOLE, 10006), ([(0, 10006)], [(10006, 10007)]))
        self.assertEqual(run_parted(WHOLE, 10007), ([(0, 10007)], []))

    def test_parted_everywhere(self):
        for run in [run for run in RUNS if run != WHOLE] + made_runs(60):
            places = places_in(run)
            for many in range(len(places) + 1):
                parted = run_parted(run, many)
                self.assertIs(type(parted), tuple)
                self.assertEqual(len(parted), 2)
                self.assertEqual(parted, (run_of(places[:many]), run_of(places[many:])), (run, many))
                self.assert_is_run(parted[0])
                self.assert_is_run(parted[1])


class JoinedTest(RunCase):
    def test_joined_written_out(self):
        self.assertEqual(run_joined([(0, 3)], [(5, 9)]), [(0, 3), (5, 9)])
        self.assertEqual(run_joined([(5, 9)], [(0, 3)]), [(5, 9), (0, 3)])

    def test_with_the_run_without_places(self):
        self.assertEqual(run_joined([], []), [])
        for run in RUNS:
            self.assertEqual(run_joined(run, []), run)
            self.assertEqual(run_joined([], run), run)

    def test_ranges_that_meet_are_one(self):
        self.assertEqual(run_joined([(0, 3)], [(3, 9)]), [(0, 9)])
        self.assertEqual(run_joined([(5, 9), (0, 3)], [(3, 5), (9, 12)]), [(5, 9), (0, 5), (9, 12)])
        self.assertEqual(run_joined([(0, 10006)], [(10006, 10007)]), WHOLE)

    def test_ranges_that_touch_in_another_order_are_not_one(self):
        self.assertEqual(run_joined([(3, 9)], [(0, 3)]), [(3, 9), (0, 3)])
        self.assertEqual(run_joined([(0, 3), (20, 30)], [(3, 9)]), [(0, 3), (20, 30), (3, 9)])
        self.assertEqual(run_joined([(0, 3)], [(20, 30), (3, 9)]), [(0, 3), (20, 30), (3, 9)])

    def test_parts_joined_in_both_orders(self):
        for run in [run for run in RUNS if run != WHOLE] + made_runs(60):
            places = places_in(run)
            for many in range(len(places) + 1):
                first, rest = run_of(places[:many]), run_of(places[many:])
                self.assertEqual(run_joined(first, rest), run, (run, many))
                turned = run_joined(rest, first)
                self.assertEqual(turned, run_of(places[many:] + places[:many]), (run, many))
                self.assert_is_run(turned)


class LookedUpTest(RunCase):
    def test_written_out(self):
        run = [(5, 9), (0, 3)]
        self.assertEqual([run_at(run, index) for index in range(7)], [5, 6, 7, 8, 0, 1, 2])
        self.assertEqual([run_index(run, place) for place in range(10)], [4, 5, 6, None, None, 0, 1, 2, 3, None])

    def test_every_index_and_its_place_and_back(self):
        for run in RUNS + made_runs(100):
            for index, place in enumerate(places_in(run)):
                self.assertEqual(run_at(run, index), place, (run, index))
                self.assertEqual(run_index(run, place), index, (run, place))

    def test_whole_numbers_are_told(self):
        run = [(1, 3), (0, 1)]
        for index in range(3):
            self.assertIs(type(run_at(run, index)), int)
            self.assertIs(type(run_index(run, index)), int)

    def test_none_for_a_place_that_is_not_in_the_run(self):
        for run in RUNS + made_runs(30):
            here = set(places_in(run))
            for place in list(range(0, 400)) + [4999, 5000, 5001, 10005, 10006]:
                if place not in here:
                    self.assertIsNone(run_index(run, place), (run, place))

    def test_the_run_without_places_has_no_index(self):
        for place in (0, 1, 5000, 10006):
            self.assertIsNone(run_index([], place))


class LongRunsTest(RunCase):
    def test_a_run_of_many_ranges_that_was_told_is_handed_in_again(self):
        run = []
        for low in reversed(range(0, 10006, 4)):
            run = run_joined(run, [(low, low + 2)])
        places = places_in(run)
        self.assertEqual(len(run), 2502)
        self.assertEqual(run_size(run), 5004)
        self.assertEqual(run_at(run, 5003), places[5003])
        self.assertEqual(run_index(run, places[4001]), 4001)
        # Not assertEqual: where these long lists are unlike, it would work for hours on showing how.
        self.assertTrue(run_parted(run, 2501) == (run_of(places[:2501]), run_of(places[2501:])))


class OwnTest(RunCase):
    def asked(self):
        """Each way of asking, as (function, the runs handed in, the other things)."""
        asked = [(run_size, [run], []) for run in RUNS]
        for run in RUNS:
            size = len(places_in(run))
            asked = asked + [(run_parted, [run], [many]) for many in (0, size // 2, size)]
            asked = asked + [(run_joined, [run, []], []), (run_joined, [[], run], [])]
            asked = asked + [(run_index, [run], [place]) for place in (0, 5, 10006)]
            if size > 0:
                asked = asked + [(run_at, [run], [size - 1])]
        asked.append((run_joined, [[(0, 3)], [(3, 9), (20, 21)]], []))
        asked.append((run_joined, [[(0, 3), (20, 21)], [(5, 9)]], []))
        return asked

    def lists_in(self, told):
        if isinstance(told, list):
            return [told]
        return list(told) if isinstance(told, tuple) else []

    def copied(self, told):
        if isinstance(told, list):
            return list(told)
        return tuple(list(part) for part in told) if isinstance(told, tuple) else told

    def test_what_is_handed_in_stays_as_it_was(self):
        for function, runs, others in self.asked():
            handed = [list(run) for run in runs]
            function(*handed, *others)
            self.assertEqual(handed, runs, function)

    def test_what_is_done_to_what_was_told_changes_nothing_handed_in(self):
        for function, runs, others in self.asked():
            handed = [list(run) for run in runs]
            told = function(*handed, *others)
            for part in self.lists_in(told):
                part.append((1, 2))
                part[0] = (8, 9)
            self.assertEqual(handed, runs, function)

    def test_what_is_done_to_what_was_handed_in_changes_nothing_told(self):
        for function, runs, others in self.asked():
            handed = [list(run) for run in runs]
            told = function(*handed, *others)
            before = self.copied(told)
            for run in handed:
                run.append((1, 2))
                run[0] = (8, 9)
            self.assertEqual(told, before, function)

    def test_what_is_asked_later_changes_nothing_told(self):
        for function, runs, others in self.asked():
            handed = [list(run) for run in runs]
            told = function(*handed, *others)
            before = self.copied(told)
            again = function(*handed, *others)
            self.assertEqual(again, before, function)
            for part in self.lists_in(again):
                part.append((1, 2))
                part[0] = (8, 9)
            self.assertEqual(told, before, function)
            self.assertEqual(function(*handed, *others), before, function)


if __name__ == "__main__":
    unittest.main()
