"""What a thing is: a whole number, or a text of given signs; and copies of things that share no list."""

LETTERS = "abcdefghijklmnopqrstuvwxyz"
FIGURES = "0123456789"
SIGNS = "abcdefghijklmnopqrstuvwxyz0123456789"


def is_whole(thing):
    # To Python a truth is an int, too; here it is no whole number.
    return isinstance(thing, int) and not isinstance(thing, bool)


def is_text_of(thing, signs, least, most):
    if not isinstance(thing, str):
        return False
    if not least <= len(thing) <= most:
        return False
    return all([sign in signs for sign in thing])


def own_copy(thing):
    """The same thing with new lists at every depth; only for what is known to be no deeper than a house."""
    if isinstance(thing, list):
        return [own_copy(part) for part in thing]
    if isinstance(thing, tuple):
        return tuple([own_copy(part) for part in thing])
    return thing
