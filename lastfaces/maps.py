"""Maps of faces, and placings of people."""

from lastfaces.errors import BadMap, BadPerson, BadPlacing
from lastfaces.houses import some_fault
from lastfaces.things import has_just, is_name


def is_map(house, thing):
    """Tells of any object whether it is a dict from just all rooms to a person or None each."""
    return has_just(thing, house.rooms()) and all([face is None or is_name(face) for face in thing.values()])


def check_map(house, faces):
    """Raises BadMap for what is no map."""
    if not is_map(house, faces):
        raise BadMap(faces)


def shown(house, faces):
    """Returns the ascending list of the people whom a map shows."""
    check_map(house, faces)
    return sorted({face for face in faces.values() if face is not None})


def seen_rooms(house, faces):
    """Returns the ascending list of the rooms that show somebody."""
    check_map(house, faces)
    return [room for room in house.rooms() if faces[room] is not None]


def rooms_of(house, faces, person):
    """Returns the ascending list of the rooms that show a person."""
    check_map(house, faces)
    if not is_name(person):
        raise BadPerson(person)
    return [room for room in house.rooms() if faces[room] == person]


def is_placing(house, thing):
    """Tells of any object whether it is a dict from people to unlike rooms."""
    if not isinstance(thing, dict) or not all([is_name(person) for person in thing]):
        return False
    return some_fault(house, list(thing.values())) is None


def check_placing(house, placing):
    """Raises BadPlacing for what is no placing."""
    if not is_placing(house, placing):
        raise BadPlacing(placing)


def check_placed_map(house, placing, faces):
    """Raises BadPlacing for what is no placing, then BadMap for what is no map."""
    check_placing(house, placing)
    check_map(house, faces)
