"""Point 4: the promise whole, by deeds, days and visitors drawn by fixed numbers, over books, copies and trees.

All is reckoned here once more, place by place and deed by deed, from the words of the document alone.
"""

import copy
import unittest

from flagroll.allots import places_moved
from flagroll.books import Book
from flagroll.cases import rule_decides
from flagroll.cells import cell_of, switch_marks
from flagroll.copies import Copy
from flagroll.errors import RollError
from flagroll.switches import decide
from flagroll.trees import Tree
from flagroll.turns import faces_turned, switch_turned

PLACES = 10007
DAYS = [0, 2, 3, 5, 10 ** 6]
NAMES = ["aa", "bb", "cc", "dd", "ee"]
FACES = ["on", "blue", "red"]


class Drawn:
    """Numbers that are always the same ones."""

    def __init__(self, seed):
        self.state = seed

    def below(self, many):
        self.state = (self.state * 1103515245 + 12345) % 2147483648
        return self.state // 65536 % many

    def one_of(self, things):
        return things[self.below(len(things))]

    def some_of(self, things):
        return [thing for thing in things if self.below(2) == 0]


def place_by(salt, number):
    f = b = 0
    for sign in salt:
        f = (f * 31 + ord(sign)) % 10006
        b = (b * 37 + ord(sign)) % 10007
    return ((1 + f) * number + b) % 10007


class Model:
    """A house as the document tells of it; the places of each face are lists of numbers."""

    def __init__(self):
        self.groups, self.holdouts, self.switches = {}, {}, {}

    def do(self, deed):
        word, name = deed[:2]
        if word == "group":
            self.groups[name] = deed[2]
        elif word == "hold":
            self.holdouts[name] = deed[2:]
        elif word == "free":
            del self.holdouts[name]
        elif word == "drop":
            del self.switches[name]
        elif word == "put":
            self.switches[name] = {"salt": deed[2], "rest": deed[3], "rules": [], "needs": [], "stopped": False,
                                   "places": {face: [] for face in deed[4]}, "free": list(range(PLACES))}
        elif word in ("rules", "needs"):
            self.switches[name][word] = deed[2]
        elif word == "shares":
            self.change_shares(self.switches[name], dict(deed[2]))
        else:
            self.switches[name]["stopped"] = word == "stop"

    def change_shares(self, switch, wanted):
        for face, places in switch["places"].items():
            many = min(wanted.get(face, len(places)), len(places))
            switch["free"] = places[many:] + switch["free"]
            switch["places"][face] = places[:many]
        for face, places in switch["places"].items():
            more = wanted.get(face, len(places)) - len(places)
            switch["places"][face] = places + switch["free"][:more]
            switch["free"] = switch["free"][more:]

    def holds(self, cond, marks):
        name, word, things = cond
        if word in ("in", "out"):
            return (word == "in") == any(all(self.holds(one, marks) for one in row) for row in self.groups[name])
        mark = marks.get(name)
        if word == "begins":
            return type(mark) is str and any(mark[:len(thing)] == thing for thing in things)
        if word in ("least", "most"):
            return type(mark) is int and (mark >= things[0] if word == "least" else mark <= things[0])
        return {"is": mark in things, "not": mark not in things, "has": mark is not None, "lacks": mark is None}[word]

    def face_by(self, switch, outcome, day, number):
        place = place_by(switch["salt"], number)
        if outcome[0] == "face":
            return outcome[1]
        if outcome[0] == "share":
            share = ([0] + [many for first, many in outcome[2] if first <= day])[-1]
            return outcome[1] if place < share else None
        return next((face for face, places in switch["places"].items() if place in places), None)

    def answer(self, day, visitor, name):
        switch = self.switches.get(name)
        if switch is None:
            return "NoSwitch"
        if switch["stopped"]:
            return (switch["rest"], ("stopped",))
        for holdout, (salt, places, names) in self.holdouts.items():
            if (names is None or name in names) and place_by(salt, visitor[0]) < places:
                return (switch["rest"], ("held", holdout))
        for needed, face in switch["needs"]:
            if self.answer(day, visitor, needed)[0] != face:
                return (switch["rest"], ("needs", needed))
        for number, (conds, outcome) in enumerate(switch["rules"]):
            if all(self.holds(cond, dict(visitor[1])) for cond in conds):
                face = self.face_by(switch, outcome, day, visitor[0])
                if face is not None:
                    return (face, ("rule", number))
        return (switch["rest"], ("rest",))

    def needs_along(self, name, needs):
        """All names that are come to from a name, where these are the needs."""
        found, waiting = set(), [name]
        while waiting:
            for needed, face in needs[waiting.pop()]:
                if needed not in found:
                    found.add(needed)
                    waiting.append(needed)
        return found

    def refusal(self, deed):
        """The name of the refusal that is due, or None. Words, things and outcomes here are faultless."""
        word, name = deed[:2]
        stands = {"put": self.switches, "hold": self.holdouts}
        if word in stands and name in stands[word]:
            return "Twice"
        if word in ("rules", "needs", "shares", "stop", "go", "drop") and name not in self.switches:
            return "NoSwitch"
        if word == "free" and name not in self.holdouts:
            return "NoHold"
        if word == "shares":
            return self.shares_refusal(self.switches[name], deed[2])
        if word == "rules":
            named = [cond[0] for conds, outcome in deed[2] for cond in conds if cond[1] in ("in", "out")]
            return None if all(group in self.groups for group in named) else "NoGroup"
        if word == "needs":
            return self.needs_refusal(name, deed[2])
        if word == "hold":
            named = [] if deed[4] is None else deed[4]
            return None if all(one in self.switches for one in named) else "NoSwitch"
        if word == "drop":
            held = [one for salt, places, names in self.holdouts.values() for one in names or []]
            needed = [one for switch in self.switches.values() for one, face in switch["needs"]]
            return "NoSwitch" if name in held + needed else None
        return None

    def shares_refusal(self, switch, shares):
        for number, (face, many) in enumerate(shares):
            if face not in switch["places"]:
                return "NoFace"
            if face in [ahead for ahead, places in shares[:number]]:
                return "Twice"
            if many < 0:
                return "BadShare"
        wanted = {face: len(places) for face, places in switch["places"].items()}
        wanted.update(dict(shares))
        return "TooMuch" if sum(wanted.values()) > PLACES else None

    def needs_refusal(self, name, needs):
        if not all(needed in self.switches for needed, face in needs):
            return "NoSwitch"
        after = {one: switch["needs"] for one, switch in self.switches.items()}
        after[name] = needs
        return "Ringed" if name in self.needs_along(name, after) else None


CONDS = [("age", "least", [18]), ("age", "most", [40]), ("age", "is", [7, "old"]), ("age", "not", [7, 18]),
         ("land", "begins", ["n", "be"]), ("land", "is", ["nl", ""]), ("land", "has", []), ("land", "lacks", []),
         ("land", "not", ["nl", "old"])]


def drawn_conds(drawn):
    return [drawn.one_of(CONDS) for number in range(drawn.one_of([0, 1, 1, 2]))]


def drawn_rule(drawn):
    conds = drawn_conds(drawn)
    if drawn.below(3) == 0:
        conds.append((drawn.one_of(["staff", "guests", "staff"]), drawn.one_of(["in", "out"]), []))
    stages = [(2, drawn.one_of([0, 50, 3000])), (4, drawn.one_of([100, 5000, 10007]))]
    outcome = drawn.one_of([("face", drawn.one_of(FACES)), ("share", drawn.one_of(FACES), stages), ("lot",), ("lot",)])
    return (conds, outcome)


def drawn_deed(drawn):
    word = drawn.one_of(["group", "put", "put", "rules", "rules", "rules", "needs", "needs", "shares", "shares",
                         "shares", "stop", "go", "go", "hold", "free", "drop"])
    name = drawn.one_of(NAMES)
    if word == "group":
        return (word, drawn.one_of(["staff", "guests"]), [drawn_conds(drawn) for row in range(drawn.below(3))])
    if word == "put":
        faces = drawn.one_of([FACES, FACES, FACES[:2], []])
        return (word, name, drawn.one_of(["salt", "z", "other"]), drawn.one_of(["off", "on"]), faces)
    if word == "rules":
        return (word, name, [drawn_rule(drawn) for number in range(drawn.below(4))])
    if word == "needs":
        return (word, name, [(drawn.one_of(NAMES), drawn.one_of(["off", "on", "blue"])) for need in
                             range(drawn.below(3))])
    if word == "shares":
        many = [0, 50, 100, 2000, 3000, 5000, 6000, 10007, -1]
        return (word, name, [(drawn.one_of(FACES), drawn.one_of(many)) for pair in range(1 + drawn.below(2))])
    if word == "hold":
        names = None if drawn.below(3) == 0 else drawn.some_of(NAMES)
        return (word, drawn.one_of(["some", "more"]), drawn.one_of(["a", "salt"]), drawn.one_of([0, 500, 3000]), names)
    if word == "free":
        return (word, drawn.one_of(["some", "more"]))
    return (word, name)


def drawn_visitor(drawn):
    number = drawn.one_of([drawn.below(PLACES), drawn.below(PLACES) + PLACES * drawn.below(90000)])
    age = drawn.one_of([7, 17, 18, 40, 41, "old", ""])
    land = drawn.one_of(["nl", "be", "b", "", "old", 7])
    return (number, drawn.some_of([("age", age), ("land", land)]))


def drawn_book(seed, many):
    """A book with so many deeds, refused ones told by themselves; and a model behind each of its moments."""
    drawn, book = Drawn(seed), Book()
    models, refusals = [Model()], {}
    while book.moment() < many:
        deed = drawn_deed(drawn)
        due = models[-1].refusal(deed)
        told = told_refusal(book, deed)
        if due != told:
            raise AssertionError((deed, due, told))
        if due is not None:
            refusals[due] = refusals.get(due, 0) + 1
            continue
        models.append(copy.deepcopy(models[-1]))
        models[-1].do(copy.deepcopy(deed))
    return book, models, refusals


def told_refusal(book, deed):
    before = (book.moment(), book.house_at(), book.deeds_from(1))
    try:
        book.change(copy.deepcopy(deed))
    except RollError as refused:
        if (book.moment(), book.house_at(), book.deeds_from(1)) != before:
            raise AssertionError((deed, "refused, but it changed the book"))
        return type(refused).__name__
    return None


SEEDS = [4, 31, 2026]
MANY = 90
BOOKS = {seed: drawn_book(seed, MANY) for seed in SEEDS}


class PromiseCase(unittest.TestCase):
    def visits(self, seed, many):
        drawn = Drawn(seed + 1000)
        return [(drawn.one_of(DAYS), drawn_visitor(drawn)) for number in range(many)]

    def told(self, asked):
        try:
            return asked()
        except RollError as refused:
            return type(refused).__name__


class AnswersTest(PromiseCase):
    def test_every_sort_of_deed_refusal_and_reason_is_drawn(self):
        words, refusals, reasons = {}, {}, {}
        for seed, (book, models, refused) in BOOKS.items():
            for deed in book.deeds_from(1):
                words[deed[0]] = words.get(deed[0], 0) + 1
            for name, many in refused.items():
                refusals[name] = refusals.get(name, 0) + many
            for day, visitor in self.visits(seed, 20):
                for moment, model in enumerate(models):
                    for name in model.switches:
                        reason = model.answer(day, visitor, name)[1][0]
                        reasons[reason] = reasons.get(reason, 0) + 1
        self.assertEqual(sorted(words), sorted(["group", "put", "rules", "needs", "shares", "stop", "go", "hold",
                                                "free", "drop"]))
        self.assertEqual(sorted(refusals), sorted(["Twice", "NoSwitch", "NoHold", "NoFace", "BadShare", "TooMuch",
                                                   "NoGroup", "Ringed"]))
        self.assertEqual(sorted(reasons), ["held", "needs", "rest", "rule", "stopped"])
        self.assertGreater(min(reasons.values()), 50)

    def test_the_book_at_each_moment(self):
        for seed, (book, models, refused) in BOOKS.items():
            for day, visitor in self.visits(seed, 25):
                for moment, model in enumerate(models):
                    for name in NAMES:
                        told = self.told(lambda: book.answer_at(day, visitor, name, moment))
                        self.assertEqual(told, model.answer(day, visitor, name), (seed, moment, name, day, visitor))

    def test_since(self):
        for seed, (book, models, refused) in BOOKS.items():
            for many in (30, 60, MANY):
                part = Book()
                for deed in book.deeds_from(1)[:many]:
                    part.change(deed)
                for day, visitor in self.visits(seed, 20):
                    for name in NAMES:
                        now = models[many].answer(day, visitor, name)
                        since = many
                        while since > 0 and models[since - 1].answer(day, visitor, name) == now:
                            since -= 1
                        told = self.told(lambda: part.since(day, visitor, name))
                        self.assertEqual(told, "NoSwitch" if now == "NoSwitch" else since)

    def test_who_is_held_out_gets_nothing_but_the_rest(self):
        held_out = 0
        for seed, (book, models, refused) in BOOKS.items():
            for day, visitor in self.visits(seed, 40):
                for moment, model in enumerate(models):
                    for name, switch in model.switches.items():
                        if any((names is None or name in names) and place_by(salt, visitor[0]) < places
                               for salt, places, names in model.holdouts.values()):
                            held_out += 1
                            self.assertEqual(book.answer_at(day, visitor, name, moment)[0], switch["rest"])
        self.assertGreater(held_out, 200)


class SharesTest(PromiseCase):
    def test_no_change_of_shares_moves_more_places_than_it_must(self):
        changes = 0
        for seed, (book, models, refused) in BOOKS.items():
            for moment, deed in enumerate(book.deeds_from(1)):
                if deed[0] != "shares":
                    continue
                before, after = [dict(book.house_at(at)[2])[deed[1]][0][3] for at in (moment, moment + 1)]
                old, new = [models[at].switches[deed[1]] for at in (moment, moment + 1)]
                grown = [len(new["places"][face]) - len(old["places"][face]) for face in old["places"]]
                must = max(sum(many for many in grown if many > 0), -sum(many for many in grown if many < 0))
                self.assertEqual(places_moved(before, after), must)
                changes += must > 0
                for face, places in old["places"].items():
                    if len(new["places"][face]) >= len(places):
                        self.assertTrue(set(places) <= set(new["places"][face]))
        self.assertGreater(changes, 10)

    def test_who_has_a_face_has_it_again(self):
        drawn = Drawn(12)
        book = Book()
        book.change(("put", "aa", "salt", "off", FACES))
        book.change(("rules", "aa", [([], ("lot",))]))
        book.change(("shares", "aa", [("on", 2000), ("blue", 3000)]))
        numbers = [drawn.below(PLACES) for number in range(300)]
        had = {}
        for step in range(25):
            many = drawn.one_of([0, 500, 1000, 4000, 5007])
            book.change(("shares", "aa", [("red", many)]))
            got = [number for number in numbers if book.answer_at(0, (number, []), "aa")[0] == "red"]
            for other, others in had.items():
                self.assertTrue(set(others) <= set(got) if other <= many else set(got) <= set(others))
            self.assertEqual(had.setdefault(many, got), got)
        self.assertEqual(len(had), 5)


class RulesTest(PromiseCase):
    def switches(self):
        for seed, (book, models, refused) in BOOKS.items():
            for moment in range(10, MANY + 1, 6):
                groups, holdouts, switches = book.house_at(moment)
                for name, entry in switches:
                    yield seed, groups, entry[0]

    def test_each_rule_decides_for_someone_or_never(self):
        found = {"yes": 0, "never": 0}
        for seed, groups, switch in self.switches():
            visits = self.visits(seed, 30)
            for number in range(len(switch[2]) + 1):
                word, told = rule_decides(groups, switch, 3, number)
                found[word] += 1
                if word == "yes":
                    self.assertEqual(decide(groups, switch, 3, told)[1], number)
                    continue
                self.assertNotIn(number, [case[4] for case in told])
                marks = switch_marks(groups, switch)
                for day, visitor in visits:
                    decided = decide(groups, switch, 3, visitor)
                    cells = tuple(cell_of(groups, switch, mark, dict(visitor[1]).get(mark)) for mark in marks)
                    place = place_by(switch[0], visitor[0])
                    cases = [case[3:] for case in told if case[0] == cells and case[1] <= place < case[2]]
                    self.assertEqual(cases, [decided])
        self.assertGreater(min(found.values()), 20)

    def test_whom_a_deed_turns(self):
        found = {True: 0, False: 0}
        for seed, (book, models, refused) in BOOKS.items():
            for moment, deed in enumerate(book.deeds_from(1)):
                if deed[0] not in ("rules", "shares"):
                    continue
                groups = book.house_at(moment)[0]
                one, other = [dict(book.house_at(at)[2])[deed[1]][0] for at in (moment, moment + 1)]
                visitor = switch_turned(groups, one, other, 3)
                found[visitor is None] += 1
                if visitor is not None:
                    self.assertNotEqual(decide(groups, one, 3, visitor)[0], decide(groups, other, 3, visitor)[0])
                for day, drawn in self.visits(seed, 30):
                    faces = [decide(groups, switch, 3, drawn)[0] for switch in (one, other)]
                    self.assertTrue(visitor is not None or faces[0] == faces[1])
                    counts = faces_turned(groups, one, other, 3, drawn[1])
                    self.assertIn(tuple(faces), [row[:2] for row in counts])
                    self.assertEqual(sum(row[2] for row in counts), PLACES)
        self.assertGreater(min(found.values()), 5)


class CopiesTest(PromiseCase):
    def test_a_copy_answers_as_the_house_did_at_the_moment_that_it_names(self):
        for seed, (book, models, refused) in BOOKS.items():
            drawn, one, known = Drawn(seed + 35), Copy(), set()
            moments = set()
            visits = self.visits(seed, 6)
            while one.moment() < MANY:
                first = drawn.one_of([1 + drawn.below(MANY), one.moment() + 1 + drawn.below(4)])
                deeds = book.deeds_from(first)[:drawn.below(4)]
                self.assertIsNone(one.take(first, deeds))
                known.update(range(first, first + len(deeds)))
                moment = min(set(range(1, MANY + 2)) - known) - 1
                self.assertEqual(one.moment(), moment)
                moments.add(moment)
                for day, visitor in visits:
                    for name in NAMES:
                        told = self.told(lambda: one.answer_now(day, visitor, name))
                        due = models[moment].answer(day, visitor, name)
                        self.assertEqual(told, due if due == "NoSwitch" else due + (moment,))
            self.assertGreater(len(moments), 8)


class TreesTest(PromiseCase):
    PARENTS = [0, 0, 1, 1, 3, 5, 2, 6]

    def way_of(self, machine):
        way = []
        while machine != 0:
            way.append(machine)
            machine = self.PARENTS[machine - 1]
        return way

    def test_each_change_is_seen_in_time(self):
        for seed, (book, models, refused) in BOOKS.items():
            drawn, tree = Drawn(seed + 36), Tree(self.PARENTS)
            deeds = book.deeds_from(1)
            begun, losses = [], []
            while tree.moment_of(8) < MANY:
                for deed in deeds[tree.moment_of(0):tree.moment_of(0) + drawn.one_of([0, 1, 2, 5])]:
                    tree.change(deed)
                begun.append(tree.moment_of(0))
                losses.append([1 + drawn.below(8) for number in range(drawn.below(4))])
                tree.turn(losses[-1])
                self.assert_seen(tree, begun, losses)
                self.assert_answers(tree, models, self.visits(seed + len(begun), 2))

    def assert_seen(self, tree, begun, losses):
        """That what the house had done as each turn began is seen by all machines for which it is due by now."""
        for machine in range(1, 9):
            way = self.way_of(machine)
            for first, moment in enumerate(begun):
                lost = sum(len(set(way) & set(told)) for told in losses[first:])
                if len(begun) - first >= len(way) + lost:
                    self.assertGreaterEqual(tree.moment_of(machine), moment)
            self.assertLessEqual(tree.moment_of(machine), tree.moment_of(self.PARENTS[machine - 1]))

    def assert_answers(self, tree, models, visits):
        for machine in range(9):
            moment = tree.moment_of(machine)
            for day, visitor in visits:
                for name in NAMES:
                    told = self.told(lambda: tree.answer_of(machine, day, visitor, name))
                    due = models[moment].answer(day, visitor, name)
                    self.assertEqual(told, due if due == "NoSwitch" else due + (moment,))

    def test_a_tree_of_copies(self):
        """A tree whose machines are copies that send one another letters: turn by turn the same."""
        for seed, (book, models, refused) in BOOKS.items():
            drawn, tree, house = Drawn(seed + 37), Tree(self.PARENTS), Book()
            machines = [None] + [Copy() for machine in self.PARENTS]
            for deed in book.deeds_from(1):
                tree.change(deed)
                house.change(deed)
                lost = [1 + drawn.below(8) for number in range(drawn.below(5))]
                begun = [house.moment()] + [machine.moment() for machine in machines[1:]]
                for machine, parent in enumerate(self.PARENTS, start=1):
                    if machine not in lost:
                        machines[machine].take(1, house.deeds_from(1)[:begun[parent]])
                tree.turn(lost)
                for machine in range(1, 9):
                    self.assertEqual(tree.moment_of(machine), machines[machine].moment())
                    for name in NAMES:
                        told = self.told(lambda: tree.answer_of(machine, 3, (machine * 100, []), name))
                        self.assertEqual(told, self.told(lambda: machines[machine].answer_now(
                            3, (machine * 100, []), name)))


if __name__ == "__main__":
    unittest.main()
