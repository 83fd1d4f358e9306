"""Marks: what is known of a visitor, pairs of a name and a thing."""

from flagroll.kinds import SIGNS, is_text_of, is_whole

GREATEST_NUMBER = 1000000000
LONGEST_TEXT = 12


def is_thing(thing):
    if is_whole(thing):
        return abs(thing) <= GREATEST_NUMBER
    return is_text_of(thing, SIGNS, 0, LONGEST_TEXT)


def mark_of(marks, name):
    for mark_name, thing in marks:
        if mark_name == name:
            return thing
    return None
