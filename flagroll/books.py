"""Books: a house that is changed by deeds, and what it was and answered at each moment."""

from flagroll.allots import allot_changed, allot_new
from flagroll.errors import BadDeed, NoHold, NoMoment
from flagroll.houses import answer, check_new, check_switch_there, house_checked
from flagroll.kinds import own_copy

DEEDS = ("group", "put", "rules", "needs", "shares", "stop", "go", "hold", "free", "drop")
DEEDS_ON_A_SWITCH = ("rules", "needs", "shares", "stop", "go", "drop")


def names_of(rows):
    return [row[0] for row in rows]


def check_deed(house, deed):
    """That the first word is a deed's, and that the name fits with those that stand in the house."""
    word = deed[0]
    # The word is not shown: a thing may be too long or too deep to be written as a text.
    if word not in DEEDS:
        raise BadDeed("a deed's first word is none of the ten")
    name = deed[1]
    if word == "put":
        check_new(name, names_of(house[2]))
    if word == "hold":
        check_new(name, names_of(house[1]))
    if word in DEEDS_ON_A_SWITCH:
        check_switch_there(name, names_of(house[2]))
    if word == "free" and name not in names_of(house[1]):
        raise NoHold(f"there is no holdout {name!r}")


def pairs_with(pairs, name, value):
    """The value in the place of that of the name, or behind all others where the name is new."""
    if name not in names_of(pairs):
        return pairs + [(name, value)]
    return [(pair[0], value) if pair[0] == name else pair for pair in pairs]


def rows_without(rows, name):
    return [row for row in rows if row[0] != name]


def new_entry(salt, rest, faces):
    return ((salt, rest, [], allot_new(faces)), [], False)


def entry_after(entry, deed):
    switch = entry[0]
    word = deed[0]
    if word == "rules":
        return ((switch[0], switch[1], deed[2], switch[3]), entry[1], entry[2])
    if word == "shares":
        return ((switch[0], switch[1], switch[2], allot_changed(switch[3], deed[2])), entry[1], entry[2])
    if word == "needs":
        return (switch, deed[2], entry[2])
    return (switch, entry[1], word == "stop")


def switches_after(switches, deed):
    name = deed[1]
    if deed[0] == "put":
        return switches + [(name, new_entry(deed[2], deed[3], deed[4]))]
    if deed[0] == "drop":
        return rows_without(switches, name)
    return pairs_with(switches, name, entry_after(dict(switches)[name], deed))


def house_after(house, deed):
    """The house that a deed makes of one; it has the deed's own lists in it."""
    word = deed[0]
    if word == "group":
        return (pairs_with(house[0], deed[1], deed[2]), house[1], house[2])
    if word == "hold":
        return (house[0], house[1] + [deed[1:]], house[2])
    if word == "free":
        return (house[0], rows_without(house[1], deed[1]), house[2])
    return (house[0], house[1], switches_after(house[2], deed))


def answer_if_there(house, day, visitor, name):
    if name not in names_of(house[2]):
        return None
    return answer(house, day, visitor, name)


class Book:
    def __init__(self):
        self.deeds = []
        # The house at each moment. One shares lists with the next: none of them is ever changed.
        self.houses = [([], [], [])]

    def change(self, deed):
        house = self.houses[-1]
        check_deed(house, deed)
        house_checked(house_after(house, deed))
        # Copied only now: what is refused may be too deep to be walked.
        own_deed = own_copy(deed)
        self.houses.append(house_after(house, own_deed))
        self.deeds.append(own_deed)
        return self.moment()

    def moment(self):
        return len(self.deeds)

    def kept_house(self, moment):
        if moment is None:
            return self.houses[-1]
        if moment < 0 or moment > self.moment():
            raise NoMoment("the book has no such moment")
        return self.houses[moment]

    def house_at(self, moment=None):
        return own_copy(self.kept_house(moment))

    def deeds_from(self, first):
        if first < 1:
            raise NoMoment("a book's deeds are numbered from 1 on")
        return own_copy(self.deeds[first - 1:])

    def answer_at(self, day, visitor, name, moment=None):
        return answer(self.kept_house(moment), day, visitor, name)

    def since(self, day, visitor, name):
        now = answer(self.houses[-1], day, visitor, name)
        moment = self.moment()
        # At moment 0 no switch stands, so this ends there at the latest.
        while answer_if_there(self.houses[moment - 1], day, visitor, name) == now:
            moment = moment - 1
        return moment
