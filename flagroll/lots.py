"""Steady lots: by a salt each number has one of 10007 places."""

from flagroll.errors import NoSalt
from flagroll.kinds import LETTERS, is_text_of

PLACES = 10007
SALT_LENGTH = 12


def check_salt(salt):
    # The salt is not shown: a thing may be too long or too deep to be written as a text.
    if not is_text_of(salt, LETTERS, 1, SALT_LENGTH):
        raise NoSalt("a salt is a text of one to twelve small letters from a to z")


def folded(salt, factor, modulus):
    key = 0
    for sign in salt:
        key = (key * factor + ord(sign)) % modulus
    return key


def lot_keys(salt):
    check_salt(salt)
    # From 1 to 10006, so never a multiple of PLACES: that is why each place has just one number.
    a = 1 + folded(salt, 31, PLACES - 1)
    b = folded(salt, 37, PLACES)
    return (a, b)


def place_of(salt, number):
    keys = lot_keys(salt)
    return (keys[0] * number + keys[1]) % PLACES


def inverse_of(key):
    # PLACES is a prime, so by Fermat key ** (PLACES - 2) times key leaves 1.
    power = 1
    square = key
    exponent = PLACES - 2
    while exponent > 0:
        if exponent % 2 == 1:
            power = power * square % PLACES
        square = square * square % PLACES
        exponent = exponent // 2
    return power


def number_for(salt, place):
    keys = lot_keys(salt)
    return inverse_of(keys[0]) * (place - keys[1]) % PLACES


def salts_parted(one, other):
    keys = lot_keys(one)
    other_keys = lot_keys(other)
    # The number 0 has the place b; where these are alike, 1 has a + b.
    if keys[1] != other_keys[1]:
        return 0
    if keys[0] != other_keys[0]:
        return 1
    return None
