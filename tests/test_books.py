"""Points 30 to 32, with 2, 3 and 4: books, their deeds and refusals, and what was at each moment."""

import copy
import itertools
import unittest

from flagroll.allots import allot_changed, allot_new
from flagroll.books import Book
from flagroll.errors import (BadDeed, BadOutcome, BadShare, BadStage, BadThings, NoFace, NoGroup, NoHold, NoMoment,
                             NoSalt, NoSwitch, NoWord, Ringed, RollError, TooMuch, Twice)
from flagroll.houses import answer, house_checked

PLACES = 10007
LETTERS = "abcdefghijklmnopqrstuvwxyz"
SIXTY = [LETTERS[k // 26] + LETTERS[k % 26] for k in range(60)]
WORDS = ["group", "put", "rules", "needs", "shares", "stop", "go", "hold", "free", "drop"]

DEEP = []
for depth in range(5000):
    DEEP = [DEEP]

NO_WORDS = ["", "Put", "puts", "pu", "put ", " put", "put\n", "lot", "face", "switch", "change", "\ud800", "a" * 5000,
            0, 1, -1, 10 ** 5000, True, False, None, [], ["put"], ["drop", "one"], [["stop"]], (), ("put",),
            ("stop", "one"), (("go",),), DEEP, (DEEP,)]

NO_SALTS = ["", "A", "a1", "abcdefghijklm", "a\n", "\ud800", 0, 10 ** 5000, True, None, [], ["a"], (), ("a",), DEEP]

FAR_NUMBERS = [10 ** 9, 10 ** 5000]


def put(name, salt="salt", rest="off", faces=("on", "blue")):
    return ("put", name, salt, rest, list(faces))


def always(face="on"):
    return [([], ("face", face))]


def new_entry(salt="salt", rest="off", faces=("on", "blue")):
    """What a put puts in, written out."""
    return ((salt, rest, [], ([(face, []) for face in faces], [(0, PLACES)])), [], False)


def reckoned_place(salt, number):
    f = b = 0
    for sign in salt:
        f = (f * 31 + ord(sign)) % 10006
        b = (b * 37 + ord(sign)) % 10007
    return ((1 + f) * number + b) % 10007


def number_at(salt, place):
    return [number for number in range(PLACES) if reckoned_place(salt, number) == place][0]


def reckoned_house(deeds):
    """The house that the deeds make, kept in dicts, which hold the order in which the names came."""
    groups, holdouts, switches = {}, {}, {}
    for deed in copy.deepcopy(list(deeds)):
        word, name = deed[:2]
        if word == "group":
            groups[name] = deed[2]
        elif word == "put":
            switches[name] = {"salt": deed[2], "rest": deed[3], "rules": [], "allot": allot_new(deed[4]), "needs": [],
                              "stopped": False}
        elif word in ("rules", "needs"):
            switches[name][word] = deed[2]
        elif word == "shares":
            switches[name]["allot"] = allot_changed(switches[name]["allot"], deed[2])
        elif word in ("stop", "go"):
            switches[name]["stopped"] = word == "stop"
        elif word == "hold":
            holdouts[name] = deed[2:]
        else:
            (holdouts if word == "free" else switches).pop(name)
    entries = [(name, ((kept["salt"], kept["rest"], kept["rules"], kept["allot"]), kept["needs"], kept["stopped"]))
               for name, kept in switches.items()]
    return (list(groups.items()), [(name,) + held for name, held in holdouts.items()], entries)


def lists_in(thing):
    found = [thing] if isinstance(thing, list) else []
    if isinstance(thing, (list, tuple)):
        for part in thing:
            found = found + lists_in(part)
    return found


def spoil(thing):
    """Another content in each list within, at every depth."""
    for found in lists_in(thing):
        found.append("spoilt")
        found.reverse()


class BookCase(unittest.TestCase):
    def book_of(self, *deeds):
        book = Book()
        for number, deed in enumerate(deeds, start=1):
            moment = book.change(deed)
            self.assertEqual(moment, number, deed)
            self.assertIs(type(moment), int)
        return book

    def state(self, book):
        """All that a book tells of its houses and deeds."""
        return (book.moment(), book.house_at(), [book.house_at(moment) for moment in range(book.moment() + 1)],
                book.deeds_from(1))

    def assert_house(self, told, book, moment=None):
        house = book.house_at(moment)
        self.assertEqual(house, told)
        self.assertIs(type(house), tuple)
        self.assertIs(house_checked(house), True)

    def refused(self, book, deed, told=""):
        before = self.state(book)
        with self.assertRaises(RollError, msg=told) as caught:
            book.change(deed)
        self.assertEqual(self.state(book), before, told)
        return caught.exception

    def assert_refused(self, refusal, book, deed, told=""):
        self.assertIs(type(self.refused(book, deed, told)), refusal, told)


class DeedsTest(BookCase):
    def test_the_begin(self):
        book = Book()
        self.assertEqual(book.moment(), 0)
        self.assertIs(type(book.moment()), int)
        self.assert_house(([], [], []), book)
        self.assert_house(([], [], []), book, 0)
        self.assertEqual(book.deeds_from(1), [])

    def test_group(self):
        rows = [[("age", "is", ["a", 5]), ("land", "not", [5])], [], [("mail", "begins", ["a"])]]
        book = self.book_of(("group", "staff", rows))
        self.assert_house(([("staff", rows)], [], []), book)
        book.change(("group", "guests", []))
        book.change(("group", "all", [[]]))
        self.assert_house(([("staff", rows), ("guests", []), ("all", [[]])], [], []), book)

    def test_group_with_other_rows(self):
        rows = [[("age", "has", [])]]
        for name in ("aa", "bb", "cc"):
            book = self.book_of(("group", "bb", [[]]), ("group", "aa", [[]]), ("group", "cc", [[]]))
            self.assertEqual(book.change(("group", name, rows)), 4)
            self.assert_house(([(one, rows if one == name else [[]]) for one in ("bb", "aa", "cc")], [], []), book)
            book.change(("group", name, []))
            self.assert_house(([(one, [] if one == name else [[]]) for one in ("bb", "aa", "cc")], [], []), book)
            book.change(("group", "zz", []))
            self.assertEqual([one for one, kept in book.house_at()[0]], ["bb", "aa", "cc", "zz"])

    def test_put(self):
        book = self.book_of(put("one", "salt", "off", ["on", "blue"]))
        told = [("one", (("salt", "off", [], ([("on", []), ("blue", [])], [(0, PLACES)])), [], False))]
        self.assert_house(([], [], told), book)
        self.assertIs(book.house_at()[2][0][1][2], False)
        book.change(put("aa", "z", "rest", []))
        told.append(("aa", (("z", "rest", [], ([], [(0, PLACES)])), [], False)))
        self.assert_house(([], [], told), book)
        book.change(put("zz", "abcdefghijkl", "off", ["off"]))
        told.append(("zz", (("abcdefghijkl", "off", [], ([("off", [])], [(0, PLACES)])), [], False)))
        self.assert_house(([], [], told), book)

    def entry_changed(self, deed, ahead=()):
        """What a deed on the second of three switches makes of its entry; the others stay as they are."""
        book = self.book_of(put("one"), put("two"), put("three"), *ahead)
        before = book.house_at()
        book.change(deed)
        after = book.house_at()
        self.assertEqual(after[:2], before[:2])
        self.assertEqual([name for name, entry in after[2]], ["one", "two", "three"])
        self.assertEqual(after[2][0], before[2][0])
        self.assertEqual(after[2][2], before[2][2])
        return after[2][1][1]

    def test_rules(self):
        rules = [([("age", "least", [18])], ("share", "on", [(0, 5), (3, 7)])), ([], ("lot",)), ([], ("face", "red"))]
        ahead = [("shares", "two", [("on", 5)]), ("needs", "two", [("one", "on")]), ("stop", "two")]
        allot = ([("on", [(0, 5)]), ("blue", [])], [(5, PLACES)])
        self.assertEqual(self.entry_changed(("rules", "two", rules), ahead),
                         (("salt", "off", rules, allot), [("one", "on")], True))
        self.assertEqual(self.entry_changed(("rules", "two", rules)), (("salt", "off", rules, new_entry()[0][3]), [],
                                                                       False))
        self.assertEqual(self.entry_changed(("rules", "two", []), [("rules", "two", rules)]), new_entry())
        self.assertEqual(self.entry_changed(("rules", "two", always()), [("rules", "two", rules)])[0][2], always())

    def test_needs(self):
        needs = [("three", "on"), ("one", "off"), ("three", "blue")]
        ahead = [("shares", "two", [("on", 5)]), ("rules", "two", always()), ("stop", "two")]
        allot = ([("on", [(0, 5)]), ("blue", [])], [(5, PLACES)])
        self.assertEqual(self.entry_changed(("needs", "two", needs), ahead),
                         (("salt", "off", always(), allot), needs, True))
        self.assertEqual(self.entry_changed(("needs", "two", []), [("needs", "two", needs)]), new_entry())
        self.assertEqual(self.entry_changed(("needs", "two", [("one", "on")]), [("needs", "two", needs)])[1],
                         [("one", "on")])

    def test_shares(self):
        ahead = [("rules", "two", always()), ("needs", "two", [("one", "on")]), ("stop", "two")]
        allot = ([("on", [(100, 150)]), ("blue", [(0, 100)])], [(150, PLACES)])
        told = self.entry_changed(("shares", "two", [("on", 50)]), ahead + [("shares", "two", [("blue", 100)])])
        self.assertEqual(told, (("salt", "off", always(), allot), [("one", "on")], True))
        told = self.entry_changed(("shares", "two", [("blue", 100), ("on", 50)]))
        self.assertEqual(told[0][3], ([("on", [(0, 50)]), ("blue", [(50, 150)])], [(150, PLACES)]))
        told = self.entry_changed(("shares", "two", [("blue", 0)]), [("shares", "two", [("on", 5), ("blue", 5)])])
        self.assertEqual(told[0][3], ([("on", [(0, 5)]), ("blue", [])], [(5, PLACES)]))
        self.assertEqual(self.entry_changed(("shares", "two", [])), new_entry())
        told = self.entry_changed(("shares", "two", [("on", 1), ("blue", PLACES - 1)]))
        self.assertEqual(told[0][3], ([("on", [(0, 1)]), ("blue", [(1, PLACES)])], []))

    def test_who_has_a_face_by_a_share_keeps_it(self):
        book = self.book_of(put("one"), ("rules", "one", [([], ("lot",))]))
        by_share = {}
        for many in (0, 100, 5000, 300, 9000, 100, 0, 300):
            book.change(("shares", "one", [("on", many)]))
            got = {number for number in range(PLACES) if book.answer_at(0, (number, []), "one")[0] == "on"}
            self.assertEqual(len(got), many)
            for other, had in by_share.items():
                self.assertTrue(had <= got if other <= many else got <= had)
            by_share[many] = got

    def test_stop_and_go(self):
        ahead = [("shares", "two", [("on", 5)]), ("rules", "two", always()), ("needs", "two", [("one", "on")])]
        allot = ([("on", [(0, 5)]), ("blue", [])], [(5, PLACES)])
        for deeds in itertools.product(["stop", "go"], repeat=3):
            for many in range(1, 4):
                done = [(word, "two") for word in deeds[:many]]
                entry = self.entry_changed(done[-1], ahead + done[:-1])
                self.assertEqual(entry, (("salt", "off", always(), allot), [("one", "on")], deeds[many - 1] == "stop"))
                self.assertIs(entry[2], deeds[many - 1] == "stop")

    def test_stop_of_a_stopped_switch_makes_a_moment(self):
        book = self.book_of(put("one"), ("go", "one"), ("stop", "one"), ("stop", "one"), ("go", "one"), ("go", "one"))
        self.assertEqual(book.moment(), 6)
        self.assertEqual(book.house_at(1), book.house_at(2))
        self.assertEqual(book.house_at(3), book.house_at(4))
        self.assertEqual(book.house_at(5), book.house_at(2))
        self.assertEqual(book.house_at(6), book.house_at(2))
        self.assertEqual(book.deeds_from(3), [("stop", "one"), ("stop", "one"), ("go", "one"), ("go", "one")])

    def test_hold(self):
        book = self.book_of(put("one"), put("two"), ("hold", "some", "a", 0, None), ("hold", "aa", "b", PLACES, []),
                            ("hold", "zz", "c", 50, ["two", "one", "two"]))
        told = [("some", "a", 0, None), ("aa", "b", PLACES, []), ("zz", "c", 50, ["two", "one", "two"])]
        self.assert_house(([], told, [("one", new_entry()), ("two", new_entry())]), book)
        for holdout in book.house_at()[1]:
            self.assertIs(type(holdout), tuple)

    def test_free(self):
        held = [("hold", name, "a", 5, None) for name in ("bb", "aa", "cc")]
        for name in ("aa", "bb", "cc"):
            book = self.book_of(*held, ("free", name))
            self.assertEqual([one[0] for one in book.house_at()[1]], [one for one in ("bb", "aa", "cc") if one != name])
            self.assert_refused(NoHold, book, ("free", name))
            book.change(("hold", name, "b", 7, []))
            self.assertEqual(book.house_at()[1][-1], (name, "b", 7, []))
            self.assertEqual(len(book.house_at()[1]), 3)

    def test_drop(self):
        for name in ("one", "two", "three"):
            book = self.book_of(put("one"), put("two"), put("three"), ("rules", name, always()), ("stop", name),
                                ("shares", name, [("on", 5)]), ("drop", name))
            left = [one for one in ("one", "two", "three") if one != name]
            self.assert_house(([], [], [(one, new_entry()) for one in left]), book)
            self.assert_refused(NoSwitch, book, ("stop", name))
            book.change(put(name, "other", "rest", ["red"]))
            told = [(one, new_entry()) for one in left] + [(name, new_entry("other", "rest", ["red"]))]
            self.assert_house(([], [], told), book)

    def test_a_switch_that_needs_others_is_struck(self):
        book = self.book_of(put("one"), put("two"), ("needs", "two", [("one", "on")]), ("drop", "two"), ("drop", "one"))
        self.assert_house(([], [], []), book)

    def test_names_of_one_sort_are_free_for_the_others(self):
        book = self.book_of(("group", "one", []), put("one"), ("hold", "one", "one", 5, ["one"]))
        self.assert_house(([("one", [])], [("one", "one", 5, ["one"])], [("one", new_entry())]), book)
        book.change(("free", "one"))
        book.change(("drop", "one"))
        self.assert_house(([("one", [])], [], []), book)
        self.assert_refused(NoSwitch, book, ("drop", "one"))
        self.assert_refused(NoHold, book, ("free", "one"))

    def test_all_deeds_one_behind_the_other(self):
        rules = [([("staff", "in", [])], ("lot",))]
        book = Book()
        steps = [
            (("group", "staff", [[]]), ([("staff", [[]])], [], [])),
            (put("one"), ([("staff", [[]])], [], [("one", new_entry())])),
            (("rules", "one", rules), ([("staff", [[]])], [], [("one", (("salt", "off", rules, new_entry()[0][3]), [],
                                                                         False))]))]
        allot = ([("on", []), ("blue", [(0, 9)])], [(9, PLACES)])
        entry = (("salt", "off", rules, allot), [], False)
        steps.append((("shares", "one", [("blue", 9)]), ([("staff", [[]])], [], [("one", entry)])))
        steps.append((put("two"), ([("staff", [[]])], [], [("one", entry), ("two", new_entry())])))
        needing = (entry[0], [("two", "off")], False)
        steps.append((("needs", "one", [("two", "off")]),
                      ([("staff", [[]])], [], [("one", needing), ("two", new_entry())])))
        stopped = (entry[0], [("two", "off")], True)
        steps.append((("stop", "one"), ([("staff", [[]])], [], [("one", stopped), ("two", new_entry())])))
        held = [("some", "a", 7, ["one"])]
        steps.append((("hold", "some", "a", 7, ["one"]),
                      ([("staff", [[]])], held, [("one", stopped), ("two", new_entry())])))
        steps.append((("go", "one"), ([("staff", [[]])], held, [("one", needing), ("two", new_entry())])))
        steps.append((("free", "some"), ([("staff", [[]])], [], [("one", needing), ("two", new_entry())])))
        steps.append((("drop", "one"), ([("staff", [[]])], [], [("two", new_entry())])))
        steps.append((("group", "staff", []), ([("staff", [])], [], [("two", new_entry())])))
        for number, (deed, house) in enumerate(steps, start=1):
            self.assertEqual(book.change(deed), number)
            self.assert_house(house, book)
        for number, (deed, house) in enumerate(steps, start=1):
            self.assert_house(house, book, number)
            self.assert_house(reckoned_house([step[0] for step in steps[:number]]), book, number)
        self.assertEqual(book.deeds_from(1), [step[0] for step in steps])

    def test_each_deed_behind_each_other(self):
        """From one full house, each two deeds one behind the other, where both are let by."""
        begin = [("group", "staff", [[]]), put("one"), put("two"), put("three"),
                 ("rules", "one", [([("staff", "in", [])], ("lot",))]), ("hold", "some", "a", 5, ["two"])]
        deeds = [("group", "staff", []), ("group", "more", [[]]), put("four"), ("rules", "one", always()),
                 ("rules", "three", always()), ("needs", "one", [("two", "on")]), ("needs", "two", [("three", "on")]),
                 ("shares", "one", [("on", 5)]), ("shares", "one", [("blue", 7)]), ("stop", "one"), ("go", "one"),
                 ("stop", "three"), ("hold", "more", "b", 7, None), ("hold", "rest", "b", 7, ["one"]), ("free", "some"),
                 ("drop", "three"), ("drop", "one")]
        done = 0
        for first, then in itertools.product(deeds, repeat=2):
            book = self.book_of(*begin, first)
            try:
                book.change(then)
            except RollError:
                self.assert_house(reckoned_house(begin + [first]), book)
                continue
            done += 1
            self.assert_house(reckoned_house(begin + [first, then]), book)
        self.assertGreater(done, 200)


def full_book():
    book = Book()
    for deed in (("group", "staff", [[("age", "has", [])]]), put("one"), put("two"), put("three"),
                 ("needs", "two", [("one", "on")]), ("hold", "some", "a", 5, ["three"]),
                 ("rules", "one", [([("staff", "in", [])], ("lot",))]), ("shares", "one", [("on", 9000)])):
        book.change(deed)
    return book


class FirstWordTest(BookCase):
    def test_first_words_that_are_no_deeds(self):
        for book in (Book(), full_book()):
            for word in NO_WORDS:
                for deed in ((word,), (word, "one"), (word, "nobody"), (word, "some"), (word, "one", []),
                             (word, "one", "A", "off", ["on", "on"]), (word, DEEP, DEEP), (word, None),
                             (word, "hold", [], -1, ["nobody"])):
                    self.assert_refused(BadDeed, book, deed)

    def test_the_ten_words_alone_are_let_by(self):
        deeds = [("group", "all", []), put("more"), ("rules", "one", []), ("needs", "one", []), ("shares", "one", []),
                 ("stop", "one"), ("go", "one"), ("hold", "more", "a", 5, None), ("free", "some"), ("drop", "three")]
        self.assertEqual([deed[0] for deed in deeds], WORDS)
        book = full_book()
        for deed in deeds:
            for word in NO_WORDS + [deed[0] + "s", deed[0].upper(), deed[0][:-1], [deed[0]], (deed[0],)]:
                self.assert_refused(BadDeed, book, (word,) + deed[1:])
            self.assertEqual(book.change(deed), book.moment())
        self.assertEqual(book.moment(), 18)


class NamesTest(BookCase):
    def test_put_of_a_name_that_stands(self):
        book = full_book()
        for name in ("one", "two", "three"):
            for deed in (put(name), put(name, "other", "rest", []), put(name, "A"), put(name, DEEP),
                         put(name, faces=["on", "on"]), put(name, None, "off", ["on", "on"])):
                self.assert_refused(Twice, book, deed)

    def test_hold_of_a_name_that_stands(self):
        book = full_book()
        for deed in (("hold", "some", "a", 5, ["three"]), ("hold", "some", "b", 7, None), ("hold", "some", "A", 5, []),
                     ("hold", "some", DEEP, -1, ["nobody"]), ("hold", "some", "a", -1, None),
                     ("hold", "some", "a", 5, ["nobody"])):
            self.assert_refused(Twice, book, deed)

    def test_no_such_switch(self):
        for book in (Book(), full_book()):
            for name in ("nobody", "some", "staff", "on", "ones", "oneone"):
                for deed in (("rules", name, []), ("needs", name, []), ("shares", name, []), ("stop", name),
                             ("go", name), ("drop", name)):
                    self.assert_refused(NoSwitch, book, deed)

    def test_no_such_switch_ahead_of_all_that_is_behind_it(self):
        book = full_book()
        for deed in (("rules", "nobody", [([("age", "equals", [])], ("lot",))]),
                     ("rules", "nobody", [([("none", "in", [])], ("lot",))]),
                     ("rules", "nobody", [([("age", "is", [DEEP])], ("lot",))]),
                     ("rules", "nobody", [([], (DEEP,))]), ("rules", "nobody", [([], ("share", "on", [(-1, 0)]))]),
                     ("needs", "nobody", [("nobody", "on")]), ("shares", "nobody", [("on", 5)]),
                     ("shares", "nobody", [("on", -1)]), ("shares", "nobody", [("on", 5), ("on", 5)]),
                     ("shares", "nobody", [("on", PLACES + 1)])):
            self.assert_refused(NoSwitch, book, deed)

    def test_no_such_holdout(self):
        for book in (Book(), full_book()):
            for name in ("nobody", "one", "staff", "som", "somes"):
                self.assert_refused(NoHold, book, ("free", name))

    def test_a_face_twice(self):
        for book in (Book(), full_book()):
            for faces in (["on", "on"], ["on", "blue", "on"], ["blue", "on", "on"], ["a", "b", "c", "b"],
                          SIXTY + SIXTY[:1]):
                for salt in ("salt", "A", None, DEEP):
                    self.assert_refused(Twice, book, put("more", salt, "off", faces))
            self.assertEqual(book.change(put("more", "salt", "on", SIXTY)), book.moment())


class SharesTest(BookCase):
    def test_each_refusal(self):
        book = full_book()
        for refusal, shares in (
                (NoFace, [("red", 5)]), (NoFace, [("off", 5)]), (NoFace, [("on", 5), ("red", 5)]),
                (Twice, [("on", 5), ("on", 5)]), (Twice, [("on", 5), ("blue", 5), ("on", 5)]),
                (BadShare, [("on", -1)]), (BadShare, [("on", 5), ("blue", -(10 ** 9))]),
                (TooMuch, [("on", PLACES + 1)]), (TooMuch, [("blue", 1008)]), (TooMuch, [("on", 9000), ("blue", 1008)]),
                (TooMuch, [("blue", 10 ** 9)])):
            self.assert_refused(refusal, book, ("shares", "one", shares))
        for shares in ([("blue", 1007)], [("on", 0), ("blue", PLACES)], [("on", PLACES), ("blue", 0)], []):
            self.assertEqual(book.change(("shares", "one", shares)), book.moment())

    def test_the_first_fault(self):
        faults = {NoFace: ("red", 5), Twice: ("on", 5), BadShare: ("blue", -1)}
        for first, then in itertools.permutations(faults, 2):
            book = full_book()
            shares = [("on", PLACES + 1), faults[first], faults[then]]
            self.assert_refused(first, book, ("shares", "one", shares))
        book = full_book()
        self.assert_refused(NoFace, book, ("shares", "one", [("red", -1), ("red", -1)]))
        self.assert_refused(Twice, book, ("shares", "one", [("on", 5), ("on", -1)]))
        self.assert_refused(BadShare, book, ("shares", "one", [("blue", 5000), ("on", -1)]))

    def test_faces_of_other_switches(self):
        book = self.book_of(put("one", faces=["on"]), put("two", faces=["red"]))
        self.assert_refused(NoFace, book, ("shares", "one", [("red", 5)]))
        self.assert_refused(NoFace, book, ("shares", "two", [("on", 5)]))
        self.assert_refused(NoFace, self.book_of(put("one", faces=[])), ("shares", "one", [("on", 0)]))


class HouseFaultsTest(BookCase):
    def test_salts(self):
        for book in (Book(), full_book()):
            for salt in NO_SALTS:
                self.assert_refused(NoSalt, book, put("more", salt))
                self.assert_refused(NoSalt, book, ("hold", "more", salt, 5, None))
                self.assert_refused(NoSalt, book, ("hold", "more", salt, -1, ["nobody"]))

    def test_holdouts(self):
        book = full_book()
        for places in (-1, -(10 ** 9), PLACES + 1, 10 ** 9):
            self.assert_refused(BadShare, book, ("hold", "more", "a", places, None))
            self.assert_refused(BadShare, book, ("hold", "more", "a", places, ["nobody"]))
        for names in (["nobody"], ["one", "nobody"], ["nobody", "one"], ["one", "two", "three", "some"], ["staff"]):
            self.assert_refused(NoSwitch, book, ("hold", "more", "a", 5, names))
        self.assert_refused(NoSwitch, Book(), ("hold", "more", "a", 5, ["one"]))

    def test_groups(self):
        book = full_book()
        for name in ("staff", "more"):
            for refusal, cond in ((NoWord, ("age", "equals", [])), (NoWord, ("age", DEEP, [])),
                                  (NoWord, ("age", ["is"], [5])), (NoWord, ("staff", "in", [])),
                                  (NoWord, ("staff", "out", [])), (NoWord, ("nobody", "in", [DEEP])),
                                  (BadThings, ("age", "is", [])), (BadThings, ("age", "is", [DEEP])),
                                  (BadThings, ("age", "least", ["a"])), (BadThings, ("age", "has", [True]))):
                for rows in ([[cond]], [[], [cond]], [[("age", "has", []), cond], []]):
                    self.assert_refused(refusal, book, ("group", name, rows))
            self.assert_refused(NoWord, book, ("group", name, [[("age", "no", []), ("age", "is", [])]]))
            self.assert_refused(BadThings, book, ("group", name, [[("age", "is", [])], [("age", "no", [])]]))

    def test_rules(self):
        book = full_book()
        faults = [(NoWord, ([("age", "equals", [])], ("lot",))), (NoWord, ([("age", None, [DEEP])], (DEEP,))),
                  (NoGroup, ([("nobody", "in", [])], ("lots",))), (NoGroup, ([("one", "out", [DEEP])], ("lot",))),
                  (BadThings, ([("age", "has", []), ("staff", "in", [5])], ("lots",))),
                  (BadThings, ([("age", "begins", [""])], ("lot",))), (BadOutcome, ([], ("lots",))),
                  (BadOutcome, ([], (None,))), (BadOutcome, ([], (DEEP, DEEP))), (BadOutcome, ([], ([], []))),
                  (BadStage, ([], ("share", "on", [(5, 5), (5, 6)]))), (BadStage, ([], ("share", "on", [(-1, 6)]))),
                  (BadStage, ([], ("share", "on", [(5, PLACES + 1)])))]
        for refusal, rule in faults:
            for rules in ([rule], always() + [rule], [rule] + always()):
                for name in ("one", "two", "three"):
                    self.assert_refused(refusal, book, ("rules", name, rules))
        for one, other in itertools.permutations(faults, 2):
            self.assert_refused(one[0], book, ("rules", "one", [one[1], other[1]]))

    def test_needs(self):
        book = full_book()
        for needs in ([("nobody", "on")], [("one", "on"), ("nobody", "on")], [("three", "on"), ("some", "on")],
                      [("three", "on"), ("nobody", "on")]):
            self.assert_refused(NoSwitch, book, ("needs", "three", needs))

    def test_a_switch_struck_that_another_one_needs(self):
        book = self.book_of(put("one"), put("two"), put("three"), ("needs", "two", [("one", "on")]),
                            ("needs", "three", [("two", "on"), ("one", "off")]))
        self.assert_refused(NoSwitch, book, ("drop", "one"))
        self.assert_refused(NoSwitch, book, ("drop", "two"))
        book.change(("needs", "two", []))
        self.assert_refused(NoSwitch, book, ("drop", "one"))
        book.change(("needs", "three", [("two", "on")]))
        book.change(("drop", "one"))
        self.assert_refused(NoSwitch, book, ("drop", "two"))
        book.change(("drop", "three"))
        self.assertEqual(book.change(("drop", "two")), 10)
        self.assert_house(([], [], []), book)

    def test_a_switch_struck_that_a_holdout_names(self):
        book = self.book_of(put("one"), put("two"), ("hold", "all", "a", 5, None), ("hold", "some", "a", 5, ["one"]),
                            ("hold", "more", "a", 5, ["two", "one"]))
        self.assert_refused(NoSwitch, book, ("drop", "one"))
        book.change(("free", "some"))
        self.assert_refused(NoSwitch, book, ("drop", "one"))
        book.change(("free", "more"))
        self.assertEqual(book.change(("drop", "one")), 8)
        self.assert_house(([], [("all", "a", 5, None)], [("two", new_entry())]), book)

    def test_needs_that_close_a_ring(self):
        names = SIXTY[:8]
        for many in range(1, 9):
            book = self.book_of(*[put(name) for name in names],
                                *[("needs", names[k], [(names[-1], "on")] * (many < 8) + [(names[k + 1], "off")])
                                  for k in range(many - 1)])
            refusal = self.refused(book, ("needs", names[many - 1], [(names[0], "on")]))
            self.assertIs(type(refusal), Ringed)
            self.assertIs(type(refusal.ring), tuple)
            turned = [tuple(names[:many][k:] + names[:many][:k]) for k in range(many)]
            self.assertIn(refusal.ring, turned)
            if many > 1:
                book.change(("needs", names[0], []))
                book.change(("needs", names[many - 1], [(names[0], "on")]))

    def test_no_such_need_ahead_of_a_ring(self):
        book = full_book()
        self.assert_refused(NoSwitch, book, ("needs", "one", [("two", "on"), ("one", "on"), ("nobody", "on")]))
        self.assert_refused(Ringed, book, ("needs", "one", [("two", "on"), ("one", "on")]))

    def test_a_refused_deed_may_be_done_later(self):
        book = Book()
        rules = [([("staff", "in", [])], ("face", "on"))]
        self.assert_refused(NoSwitch, book, ("rules", "one", rules))
        book.change(put("one"))
        self.assert_refused(NoGroup, book, ("rules", "one", rules))
        book.change(("group", "staff", [[]]))
        self.assertEqual(book.change(("rules", "one", rules)), 3)
        self.assert_refused(Twice, book, put("one"))
        book.change(("drop", "one"))
        self.assertEqual(book.change(put("one")), 5)
        self.assertEqual(book.deeds_from(1), [put("one"), ("group", "staff", [[]]), ("rules", "one", rules),
                                              ("drop", "one"), put("one")])


class GroupTurnedTest(BookCase):
    def test_while_conditions_name_it(self):
        rules = [([("staff", "in", [])], ("face", "blue")), ([("staff", "out", [])], ("face", "on"))]
        book = self.book_of(("group", "staff", []), put("one"), ("rules", "one", rules), ("group", "staff", [[]]),
                            ("group", "staff", [[("age", "least", [18])]]), ("group", "staff", [[("age", "has", [])]]))
        told = [None, None, "off", "on", "blue", "on", "blue"]
        for moment in range(2, 7):
            self.assertEqual(book.answer_at(0, (5, [("age", 17)]), "one", moment)[0], told[moment])
        for moment, number in ((3, 1), (4, 0), (5, 1), (6, 0)):
            self.assertEqual(book.answer_at(0, (5, [("age", 17)]), "one", moment)[1], ("rule", number))
        self.assertEqual(book.since(0, (5, [("age", 17)]), "one"), 6)
        self.assertEqual(book.since(0, (5, [("age", 18)]), "one"), 4)
        self.assertEqual(book.since(0, (5, []), "one"), 5)


class MomentsTest(BookCase):
    DEEDS = [put("one"), ("rules", "one", always()), ("stop", "one"), put("two", "other", "red", ["on"]),
             ("needs", "two", [("one", "on")]), ("rules", "two", always("gold")), ("go", "one"),
             ("hold", "some", "a", 5000, ["one"]), ("hold", "all", "b", 5000, None), ("free", "some"), ("free", "all"),
             ("rules", "one", [([("staffs", "lacks", [])], ("face", "off"))]), ("needs", "two", []), ("drop", "one")]

    def test_the_house_at_each_moment(self):
        book = Book()
        for number, deed in enumerate(self.DEEDS, start=1):
            book.change(deed)
            for moment in range(number + 1):
                self.assert_house(reckoned_house(self.DEEDS[:moment]), book, moment)
            self.assert_house(reckoned_house(self.DEEDS[:number]), book)
            self.assert_house(reckoned_house(self.DEEDS[:number]), book, None)

    def assert_no_moment(self, asked):
        with self.assertRaises(RollError) as caught:
            asked()
        self.assertIs(type(caught.exception), NoMoment)

    def test_no_such_moment(self):
        for many in (0, 1, 5, len(self.DEEDS)):
            book = self.book_of(*self.DEEDS[:many])
            for moment in [-1, -2, -many - 1, many + 1, many + 2] + FAR_NUMBERS + [-far for far in FAR_NUMBERS]:
                self.assert_no_moment(lambda: book.house_at(moment))
                for name in ("one", "nobody"):
                    self.assert_no_moment(lambda: book.answer_at(0, (5, []), name, moment))
            self.assertEqual(book.moment(), many)

    def test_answers_at_each_moment(self):
        book = self.book_of(*self.DEEDS)
        number = [k for k in range(PLACES) if reckoned_place("a", k) < 5000 <= reckoned_place("b", k)][0]
        visitor = (number, [])
        ones = {1: ("off", ("rest",)), 2: ("on", ("rule", 0)), 3: ("off", ("stopped",)), 7: ("on", ("rule", 0)),
                8: ("off", ("held", "some")), 10: ("on", ("rule", 0)), 12: ("off", ("rule", 0))}
        twos = {4: ("red", ("rest",)), 5: ("red", ("needs", "one")), 7: ("gold", ("rule", 0)),
                8: ("red", ("needs", "one")), 10: ("gold", ("rule", 0)), 12: ("red", ("needs", "one")),
                13: ("gold", ("rule", 0))}
        told = {"one": None, "two": None}
        for moment in range(len(self.DEEDS) + 1):
            told["one"] = None if moment == 14 else ones.get(moment, told["one"])
            told["two"] = twos.get(moment, told["two"])
            for name in ("one", "two"):
                if told[name] is None:
                    self.assert_no_switch(lambda: book.answer_at(0, visitor, name, moment))
                else:
                    answered = book.answer_at(0, visitor, name, moment)
                    self.assertEqual(answered, told[name], (name, moment))
                    self.assertIs(type(answered), tuple)
                    self.assertEqual(answered, answer(book.house_at(moment), 0, visitor, name))
        self.assertEqual(book.answer_at(0, visitor, "two"), ("gold", ("rule", 0)))
        self.assertEqual(book.answer_at(0, visitor, "two", None), ("gold", ("rule", 0)))
        self.assert_no_switch(lambda: book.answer_at(0, visitor, "one"))

    def assert_no_switch(self, asked):
        with self.assertRaises(RollError) as caught:
            asked()
        self.assertIs(type(caught.exception), NoSwitch)

    def test_no_such_switch(self):
        book = full_book()
        for name in ("nobody", "some", "staff", "on", "ones"):
            for moment in [None] + list(range(book.moment() + 1)):
                self.assert_no_switch(lambda: book.answer_at(0, (5, []), name, moment))
            self.assert_no_switch(lambda: book.since(0, (5, []), name))
        for name, first in (("one", 2), ("two", 3), ("three", 4)):
            for moment in range(first):
                self.assert_no_switch(lambda: book.answer_at(0, (5, []), name, moment))
            for moment in range(first, book.moment() + 1):
                book.answer_at(0, (5, []), name, moment)
        self.assert_no_switch(lambda: Book().answer_at(0, (5, []), "one"))
        self.assert_no_switch(lambda: Book().answer_at(0, (5, []), "one", 0))
        self.assert_no_switch(lambda: Book().since(0, (5, []), "one"))

    def test_answers_hang_on_day_and_number(self):
        book = self.book_of(put("one"), ("rules", "one", [([], ("share", "on", [(3, 50), (5, 60)])), ([], ("lot",))]),
                            ("shares", "one", [("blue", 70)]))
        for place, told in ((49, ["blue", "on", "on"]), (50, ["blue", "blue", "on"]), (59, ["blue", "blue", "on"]),
                            (60, ["blue", "blue", "blue"]), (69, ["blue"] * 3), (70, ["off"] * 3)):
            for day, face in zip((2, 3, 5), told):
                self.assertEqual(book.answer_at(day, (number_at("salt", place), []), "one")[0], face)


class DeedsFromTest(BookCase):
    def test_from_each_number(self):
        deeds = MomentsTest.DEEDS
        book = self.book_of(*deeds)
        for first in range(1, len(deeds) + 1):
            told = book.deeds_from(first)
            self.assertEqual(told, deeds[first - 1:])
            self.assertIs(type(told), list)
            self.assertEqual([type(deed) for deed in told], [tuple] * len(told))
        for first in [len(deeds) + 1, len(deeds) + 2] + FAR_NUMBERS:
            self.assertEqual(book.deeds_from(first), [])

    def test_below_the_first(self):
        for book in (Book(), self.book_of(*MomentsTest.DEEDS)):
            for first in [0, -1, -2, -len(MomentsTest.DEEDS)] + [-far for far in FAR_NUMBERS]:
                with self.assertRaises(RollError) as caught:
                    book.deeds_from(first)
                self.assertIs(type(caught.exception), NoMoment)

    def test_of_an_empty_book(self):
        for first in (1, 2, 300):
            self.assertEqual(Book().deeds_from(first), [])

    def test_a_book_may_be_made_again_from_them(self):
        book = full_book()
        again = self.book_of(*book.deeds_from(1))
        self.assertEqual(self.state(again), self.state(book))

    def test_what_was_refused_is_none_of_them(self):
        book = self.book_of(put("one"))
        self.assert_refused(Twice, book, put("one"))
        book.change(("stop", "one"))
        self.assert_refused(NoHold, book, ("free", "one"))
        self.assertEqual(book.deeds_from(1), [put("one"), ("stop", "one")])
        self.assertEqual(book.deeds_from(2), [("stop", "one")])


class SinceTest(BookCase):
    def assert_since(self, told, book, name="one", visitor=(5, []), day=0):
        moment = book.since(day, visitor, name)
        self.assertEqual(moment, told)
        self.assertIs(type(moment), int)

    def test_from_the_begin_on(self):
        book = self.book_of(put("one"))
        self.assert_since(1, book)
        for deed in (put("two"), ("group", "staff", []), ("hold", "some", "a", PLACES, ["two"]), ("stop", "two"),
                     ("shares", "one", [("on", 500)]), ("go", "one")):
            book.change(deed)
            self.assert_since(1, book)

    def test_behind_others(self):
        book = self.book_of(put("two"), ("group", "staff", []), put("one"), ("stop", "two"))
        self.assert_since(3, book)
        self.assert_since(4, book, "two")

    def test_changed_and_come_back(self):
        book = self.book_of(put("one"), ("rules", "one", always()))
        self.assert_since(2, book)
        book.change(("rules", "one", []))
        self.assert_since(3, book)
        book.change(("rules", "one", always()))
        self.assert_since(4, book)
        book.change(("stop", "one"))
        self.assert_since(5, book)
        book.change(("stop", "one"))
        self.assert_since(5, book)
        book.change(("go", "one"))
        self.assert_since(7, book)
        book.change(("go", "one"))
        self.assert_since(7, book)

    def test_the_same_face_for_another_reason(self):
        book = self.book_of(put("one", rest="on"), ("rules", "one", always("on")))
        self.assert_since(2, book)
        book.change(("rules", "one", [([("age", "has", [])], ("lot",))] + always("on")))
        self.assert_since(3, book)
        book.change(("stop", "one"))
        self.assert_since(4, book)
        book.change(("hold", "some", "a", PLACES, None))
        self.assert_since(4, book)
        book.change(("go", "one"))
        self.assert_since(6, book)
        book.change(("hold", "more", "a", PLACES, None))
        self.assert_since(6, book)
        book.change(("free", "some"))
        self.assert_since(8, book)

    def test_another_face_for_the_same_reason(self):
        book = self.book_of(put("one"), ("rules", "one", always("on")), ("rules", "one", always("blue")),
                            ("rules", "one", always("blue") + always("on")))
        self.assert_since(3, book)

    def test_struck_and_put_in_again(self):
        book = self.book_of(put("one"), put("two"), ("drop", "one"), put("one"))
        self.assert_since(4, book)
        self.assert_since(2, book, "two")
        book.change(("drop", "one"))
        with self.assertRaises(NoSwitch):
            book.since(0, (5, []), "one")
        book.change(("stop", "two"))
        book.change(put("one"))
        self.assert_since(7, book)
        book.change(put("three"))
        self.assert_since(7, book)

    def test_by_a_need(self):
        book = self.book_of(put("one"), put("two"), ("rules", "one", always()), ("needs", "one", [("two", "off")]))
        self.assert_since(3, book)
        book.change(("rules", "two", always()))
        self.assert_since(5, book)
        self.assert_since(5, book, "two")
        book.change(("rules", "two", always("red")))
        self.assert_since(5, book)
        self.assert_since(6, book, "two")
        book.change(("stop", "two"))
        self.assert_since(7, book)

    def test_by_visitor_and_day(self):
        book = self.book_of(put("one"), ("rules", "one", [([("age", "least", [18])], ("share", "on", [(4, 50)]))]),
                            ("rules", "one", [([("age", "least", [18])], ("share", "on", [(4, 90)]))]),
                            ("rules", "one", [([("age", "least", [17])], ("share", "on", [(3, 90)]))]))
        for place, age, day, told in ((49, 18, 4, 2), (49, 18, 3, 4), (49, 18, 2, 1), (50, 18, 4, 3), (89, 18, 4, 3),
                                      (90, 18, 4, 1), (49, 17, 4, 4), (49, 16, 4, 1)):
            self.assert_since(told, book, "one", (number_at("salt", place), [("age", age)]), day)

    def test_as_reckoned_at_each_moment(self):
        deeds = MomentsTest.DEEDS
        for many in range(1, len(deeds) + 1):
            book = self.book_of(*deeds[:many])
            for number in range(0, PLACES, 700):
                for name, entry in book.house_at()[2]:
                    now = book.answer_at(0, (number, []), name)
                    told = many
                    while name in [one for one, kept in book.house_at(told - 1)[2]] and (
                            book.answer_at(0, (number, []), name, told - 1) == now):
                        told -= 1
                    self.assert_since(told, book, name, (number, []))


class OwnTest(BookCase):
    ROWS = [[("age", "is", ["a", 5]), ("land", "begins", ["b"])], []]
    RULES = [([("age", "is", ["a", 5]), ("staff", "in", [])], ("share", "on", [(0, 5), (3, 7)])), ([], ("lot",))]
    DEEDS = [("group", "staff", ROWS), put("one"), put("two"), ("rules", "one", RULES),
             ("needs", "one", [("two", "off"), ("two", "off")]), ("shares", "one", [("on", 50), ("blue", 70)]),
             ("hold", "some", "a", 5, ["one", "two"]), ("hold", "all", "a", 5, None), ("stop", "two"), ("go", "two"),
             ("group", "staff", ROWS + ROWS), ("shares", "one", [("on", 20)]), ("free", "some"), ("drop", "one"),
             put("one", faces=[]), ("rules", "two", []), ("group", "none", [])]

    def fresh(self):
        """The deeds, copied one by one: so no two of them share a list."""
        return [copy.deepcopy(deed) for deed in self.DEEDS]

    def test_deeds_are_not_changed(self):
        deeds = self.fresh()
        book = self.book_of(*deeds)
        self.state(book)
        book.answer_at(0, (5, []), "two")
        book.since(0, (5, []), "two")
        self.assertEqual(deeds, self.DEEDS)

    def test_refused_deeds_are_not_changed(self):
        for deed in (("group", "more", [[("age", "is", [])]]), put("more", "A"), put("one"), ("rules", "one", [
                ([("age", "is", [5])], ("lots", [5]))]), ("needs", "one", [("one", "on")]),
                ("shares", "one", [("on", 5), ("red", 5)]), ("hold", "more", "a", 5, ["one", "nobody"])):
            book = full_book()
            before = copy.deepcopy(deed)
            self.refused(book, deed)
            self.assertEqual(deed, before)
            spoil(deed)
            self.assertEqual(self.state(book), self.state(full_book()))

    def test_deeds_that_are_changed_afterwards(self):
        told = self.state(self.book_of(*self.fresh()))
        book = Book()
        for deed in self.fresh():
            book.change(deed)
            spoil(deed)
            self.assertEqual(book.house_at(), reckoned_house(self.DEEDS[:book.moment()]))
        self.assertEqual(self.state(book), told)
        self.assertEqual(book.deeds_from(1), self.DEEDS)

    def test_deeds_that_are_changed_much_later(self):
        deeds = self.fresh()
        book = self.book_of(*deeds)
        spoil(deeds)
        self.assertEqual(self.state(book), self.state(self.book_of(*self.fresh())))

    def test_one_deed_in_two_books(self):
        deeds = self.fresh()
        one, other = self.book_of(*deeds), self.book_of(*deeds)
        for moment in range(one.moment() + 1):
            spoil(one.house_at(moment))
        spoil(one.deeds_from(1))
        self.assertEqual(self.state(other), self.state(self.book_of(*self.fresh())))

    def test_one_list_in_two_deeds(self):
        rules = copy.deepcopy(self.RULES[1:])
        book = self.book_of(put("one"), put("two"), ("rules", "one", rules), ("rules", "two", rules))
        spoil(book.house_at()[2][0])
        self.assertEqual(book.house_at(), reckoned_house(book.deeds_from(1)))
        rules.clear()
        self.assertEqual(book.house_at()[2][0][1][0][2], self.RULES[1:])
        self.assertEqual(book.house_at()[2][1][1][0][2], self.RULES[1:])

    def test_houses_that_are_changed_afterwards(self):
        book = self.book_of(*self.fresh())
        before = self.state(self.book_of(*self.fresh()))
        for moment in [None] + list(range(book.moment() + 1)):
            house = book.house_at(moment)
            self.assertGreaterEqual(len(lists_in(house)), 3)
            spoil(house)
            self.assertEqual(self.state(book), before, moment)
        self.assertEqual(book.change(("stop", "two")), len(self.DEEDS) + 1)
        self.assert_house(reckoned_house(self.DEEDS + [("stop", "two")]), book)

    def test_lists_of_deeds_that_are_changed_afterwards(self):
        book = self.book_of(*self.fresh())
        before = self.state(self.book_of(*self.fresh()))
        for first in range(1, len(self.DEEDS) + 3):
            spoil(book.deeds_from(first))
            self.assertEqual(self.state(book), before, first)

    def test_no_list_is_told_twice(self):
        book = self.book_of(*self.fresh())
        told = [book.house_at(moment) for moment in range(book.moment() + 1)] + [book.house_at(), book.house_at()]
        told = told + [book.deeds_from(first) for first in (1, 1, 5)]
        marks = [{id(found) for found in lists_in(thing)} for thing in told]
        for one, other in itertools.combinations(marks, 2):
            self.assertEqual(one & other, set())

    def test_what_was_told_stays_as_later_deeds_are_done(self):
        book = Book()
        houses, deeds = [book.house_at()], [book.deeds_from(1)]
        for deed in self.fresh():
            book.change(deed)
            houses.append(book.house_at())
            deeds.append(book.deeds_from(1))
        for moment in range(len(self.DEEDS) + 1):
            self.assertEqual(houses[moment], reckoned_house(self.DEEDS[:moment]))
            self.assertEqual(deeds[moment], self.DEEDS[:moment])

    def test_visitors_are_not_changed_and_not_kept(self):
        book = full_book()
        visitor = (5, [("age", 18)])
        first = book.answer_at(0, visitor, "one")
        since = book.since(0, visitor, "one")
        self.assertEqual(visitor, (5, [("age", 18)]))
        visitor[1].clear()
        self.assertEqual(book.answer_at(0, visitor, "one"), ("off", ("rest",)))
        self.assertEqual(book.answer_at(0, (5, [("age", 18)]), "one"), first)
        self.assertEqual(book.since(0, (5, [("age", 18)]), "one"), since)

    def test_two_books_side_by_side(self):
        one, other = Book(), Book()
        one.change(put("one"))
        self.assertEqual(other.moment(), 0)
        self.assert_house(([], [], []), other)
        self.assertEqual(other.deeds_from(1), [])
        for number, deed in enumerate(self.DEEDS, start=1):
            self.assertEqual(other.change(deed), number)
            self.assertEqual(one.change((["stop", "go"][number % 2], "one")), number + 1)
            self.assert_house(reckoned_house(self.DEEDS[:number]), other)
        self.assertEqual(one.house_at(1), Book().house_at()[:2] + ([("one", new_entry())],))
        self.assertEqual(one.deeds_from(18), [("go", "one")])


class ManyTest(BookCase):
    def test_three_hundred_deeds(self):
        book = Book()
        names = SIXTY[:20]
        deeds = [("group", "staff", [[("age", "least", [18])]])] + [put(name) for name in names]
        deeds = deeds + [("rules", name, [([("staff", "in", [])], ("lot",))]) for name in names]
        deeds = deeds + [("needs", names[k], [(names[k + 1], "off")]) for k in range(19)]
        while len(deeds) < 300:
            name = names[len(deeds) * 7 % 20]
            many = len(deeds) * 37 % 5000
            deeds.append(("shares", name, [("on", many), ("blue", 5000 - many)]))
        for number, deed in enumerate(deeds, start=1):
            self.assertEqual(book.change(deed), number)
        for moment in (0, 1, 150, 299, 300):
            self.assert_house(reckoned_house(deeds[:moment]), book, moment)
        self.assertEqual(book.deeds_from(1), deeds)
        for name in names:
            self.assertGreaterEqual(book.since(0, (5, [("age", 18)]), name), 2)

    def test_the_longest_lists(self):
        rows = [[(name, "is", list(range(10))) for name in SIXTY]] * 60
        rules = [([(name, "not", ["a"]) for name in SIXTY], ("share", "on", [(day, day) for day in range(60)]))] * 60
        needs = [("two", "on")] * 60
        book = self.book_of(put("one", faces=SIXTY), put("two"), ("group", "staff", rows), ("rules", "one", rules),
                            ("needs", "one", needs), ("shares", "one", [(face, 100) for face in SIXTY]),
                            ("hold", "some", "a", 5, ["one"] * 60))
        self.assert_house(reckoned_house(book.deeds_from(1)), book)
        self.assertEqual(book.house_at()[2][0][1][1], needs)


if __name__ == "__main__":
    unittest.main()
