"""Conditions over marks, and groups of marks made of them."""

from flagroll.errors import BadThings, NoGroup, NoWord
from flagroll.kinds import SIGNS, is_text_of, is_whole
from flagroll.marks import mark_of

WORDS = ("is", "not", "begins", "least", "most", "has", "lacks", "in", "out")
MOST_THINGS = 10
GREATEST_TOLD = 999999999
LONGEST_TOLD = 8


def mark_holds(word, things, mark):
    if word == "is":
        return mark is not None and mark in things
    if word == "not":
        return mark is None or mark not in things
    if word == "begins":
        return isinstance(mark, str) and any([mark.startswith(thing) for thing in things])
    if word == "least":
        return is_whole(mark) and mark >= things[0]
    if word == "most":
        return is_whole(mark) and mark <= things[0]
    if word == "has":
        return mark is not None
    return mark is None


def cond_holds(groups, cond, marks):
    name = cond[0]
    word = cond[1]
    if word == "in":
        return in_group(groups, name, marks)
    if word == "out":
        return not in_group(groups, name, marks)
    return mark_holds(word, cond[2], mark_of(marks, name))


def conds_hold(groups, conds, marks):
    for cond in conds:
        if not cond_holds(groups, cond, marks):
            return False
    return True


def in_rows(groups, rows, marks):
    for row in rows:
        if conds_hold(groups, row, marks):
            return True
    return False


def in_group(groups, name, marks):
    for group_name, rows in groups:
        if group_name == name:
            return in_rows(groups, rows, marks)
    return False


def is_told_text(thing, least):
    return is_text_of(thing, SIGNS, least, LONGEST_TOLD)


def is_told_number(thing):
    return is_whole(thing) and abs(thing) <= GREATEST_TOLD


def things_go(word, things):
    if word == "is" or word == "not":
        fits = [is_told_text(thing, 0) or is_told_number(thing) for thing in things]
        return 1 <= len(things) <= MOST_THINGS and all(fits)
    if word == "begins":
        return 1 <= len(things) <= MOST_THINGS and all([is_told_text(thing, 1) for thing in things])
    if word == "least" or word == "most":
        return len(things) == 1 and is_told_number(things[0])
    return things == []


def cond_checked(cond, names):
    name = cond[0]
    word = cond[1]
    # Neither the word nor the things are shown: they may be too long or too deep to be written as a text.
    if word not in WORDS:
        raise NoWord("a condition's word is none of the nine")
    if (word == "in" or word == "out") and name not in names:
        raise NoGroup(f"there is no group {name!r}")
    if not things_go(word, cond[2]):
        raise BadThings(f"the things don't go with the word {word!r}")
    return True
