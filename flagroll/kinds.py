"""What a thing is: a whole number, or a text of given signs."""

LETTERS = "abcdefghijklmnopqrstuvwxyz"
FIGURES = "0123456789"
SIGNS = "abcdefghijklmnopqrstuvwxyz0123456789"


def is_whole(thing):
    # To Python a truth is an int, too; here it is no whole number.
    return isinstance(thing, int) and not isinstance(thing, bool)


def is_text_of(thing, signs, least, most):
    if not isinstance(thing, str):
        return False
    if not least <= len(thing) <= most:
        return False
    return all([sign in signs for sign in thing])
