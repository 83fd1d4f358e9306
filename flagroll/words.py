"""Conditions written as a line, and read again."""

from flagroll.conds import cond_checked
from flagroll.errors import BadThings, NoLine, NoWord
from flagroll.kinds import FIGURES, LETTERS, is_text_of

LONGEST_NAME = 8
MOST_FIGURES = 9


def show_thing(thing):
    return f".{thing}" if isinstance(thing, str) else str(thing)


def show_cond(cond):
    return " ".join([cond[0], cond[1]] + [show_thing(thing) for thing in cond[2]])


def is_written_number(part):
    figures = part[1:] if part.startswith("-") else part
    # Python's int would let by signs, blanks, figures of other scripts and noughts that are none here.
    if not is_text_of(figures, FIGURES, 1, MOST_FIGURES):
        return False
    return part == "0" or not figures.startswith("0")


def read_thing(part):
    if part.startswith("."):
        return part[1:]
    if not is_written_number(part):
        raise NoLine("a thing is neither a text behind a point nor a whole number as it is written here")
    return int(part)


def read_cond(line):
    # Parted at each blank: where there is one too many, an empty part is left, which is refused below.
    parts = line.split(" ")
    if len(parts) < 2:
        raise NoLine("a condition has a name and a word, parted by a blank")
    name = parts[0]
    if not is_text_of(name, LETTERS, 1, LONGEST_NAME):
        raise NoLine("a name is a text of one to eight small letters from a to z")
    cond = (name, parts[1], [read_thing(part) for part in parts[2:]])
    try:
        cond_checked(cond, [name])
    except (NoWord, BadThings):
        raise NoLine("the word is none, or the things don't go with it") from None
    return cond
