"""Guesses: what each room may show."""

from lastfaces.errors import BadGuesses, BadPeople
from lastfaces.houses import check_some
from lastfaces.maps import check_map, check_placing, is_map
from lastfaces.things import has_just, is_name, names_fault, unlike_fault


def face_key(thing):
    """Returns by what a face is known, a person or None: None of any other thing."""
    if thing is None:
        return ""
    return thing if is_name(thing) else None


def is_guess(thing):
    """Tells of any object whether it is a list, not empty, of unlike faces."""
    return unlike_fault(thing, face_key) is None and len(thing) > 0


def is_guesses(house, thing):
    """Tells of any object whether it is a dict from just all rooms to lists, not empty, of unlike faces."""
    return has_just(thing, house.rooms()) and all([is_guess(faces) for faces in thing.values()])


def check_guesses(house, guesses):
    """Raises BadGuesses for what are no guesses."""
    if not is_guesses(house, guesses):
        raise BadGuesses(guesses)


def check_placed_guesses(house, placing, guesses):
    """Raises BadPlacing for what is no placing, then BadGuesses for what are no guesses."""
    check_placing(house, placing)
    check_guesses(house, guesses)


def in_order(faces):
    """Returns the list of some unlike faces with people ascending, None last."""
    return sorted([face for face in faces if face is not None]) + [face for face in faces if face is None]


def wiped(house, faces, some, people):
    """Returns the guesses of a map of which some rooms are wiped, so that they may show each of people, or nobody."""
    check_map(house, faces)
    check_some(house, some)
    fault = names_fault(people)
    if fault is not None:
        raise BadPeople(fault)
    return {room: sorted(people) + [None] if room in some else [faces[room]] for room in house.rooms()}


def is_within(house, guesses, thing):
    """Tells of any object whether it is a map in which each room shows one of its guesses."""
    check_guesses(house, guesses)
    return is_map(house, thing) and all([thing[room] in guesses[room] for room in house.rooms()])
