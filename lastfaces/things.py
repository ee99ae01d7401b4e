"""What the other files ask about things of any kind."""

from math import gcd

LETTERS = "abcdefghijklmnopqrstuvwxyz"
FIGURES = "0123456789"
LONGEST_NAME = 12


def is_list(thing):
    """Tells whether a thing is a list, or a tuple, which may stand for one."""
    return isinstance(thing, (list, tuple))


def is_pair(thing):
    """Tells whether a thing is a list of two things."""
    return is_list(thing) and len(thing) == 2


def is_name(thing):
    """Tells whether a thing is a name: of a room or of a person."""
    if not isinstance(thing, str) or not 1 <= len(thing) <= LONGEST_NAME:
        return False
    return thing[0] in LETTERS and all([sign in LETTERS or sign in FIGURES for sign in thing])


def is_number(thing):
    """Tells whether a thing is a number, an integer from 0 on."""
    return isinstance(thing, int) and not isinstance(thing, bool) and thing >= 0


def is_number_below(thing, limit):
    """Tells whether a thing is a number, an integer from 0 on, below a limit."""
    return is_number(thing) and thing < limit


def fraction(over, under):
    """Returns the fraction in lowest terms of two numbers, under being above 0."""
    shared = gcd(over, under)
    return over // shared, under // shared


def has_just(thing, keys):
    """Tells whether a thing is a dict with just these unlike keys."""
    return isinstance(thing, dict) and len(thing) == len(keys) and all([key in thing for key in keys])


def unlike_fault(things, key_of):
    """Returns the index of the first thing that is wrong or stood before: 0 for no list, None if there is none.

    key_of tells a thing's key, by which it is known again, and None of a wrong thing.
    """
    if not is_list(things):
        return 0
    stood = set()
    for index, thing in enumerate(things):
        key = key_of(thing)
        if key is None or key in stood:
            return index
        stood.add(key)
    return None


def names_fault(things):
    """Returns the index of the first thing that is no name or stood before: 0 for no list, None if there is none."""
    return unlike_fault(things, lambda thing: thing if is_name(thing) else None)


def new_names(many, names):
    """Returns the list of so many unlike names that are none of some names."""
    told = []
    number = 0
    while len(told) < many:
        name = f"n{number}"
        if name not in names:
            told.append(name)
        number += 1
    return told
