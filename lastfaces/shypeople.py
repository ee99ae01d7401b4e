"""Walks in which shy people never were in some rooms, and papers that show that there is none."""

from lastfaces.errors import BadShy
from lastfaces.houses import some_fault
from lastfaces.keptaway import kept_walk
from lastfaces.maps import check_placed_map
from lastfaces.shylots import ShyLots
from lastfaces.therule import is_placed
from lastfaces.things import is_pair


def is_shy(house, placing, thing):
    """Tells of any object whether it is a dict from people to lists of rooms, but not those where they stand."""
    if not isinstance(thing, dict) or not all([is_placed(placing, person) for person in thing]):
        return False
    return all([some_fault(house, rooms) is None and placing[person] not in rooms for person, rooms in thing.items()])


def check_shy(house, placing, faces, shy):
    """Raises BadPlacing, BadMap or BadShy for the first thing that is none."""
    check_placed_map(house, placing, faces)
    if not is_shy(house, placing, shy):
        raise BadShy(shy)


def shy_walk(house, placing, faces, shy):
    """Returns a walk (start, steps) that ends so and keeps shy, None if there is none."""
    check_shy(house, placing, faces, shy)
    return kept_walk(house, placing, faces, shy)


def shy_why(house, placing, faces, shy):
    """Returns None if there is such a walk, else a paper that shows why there is none."""
    check_shy(house, placing, faces, shy)
    for person in sorted(placing):
        if faces[placing[person]] != person:
            return "room", person
    lots = ShyLots(house, placing, faces)
    taken = lots.taken(shy)
    return None if lots.is_all(taken) else ("rooms", lots.rooms_in(taken))


def is_shy_why(house, placing, faces, shy, thing):
    """Tells of any object whether it is a paper that shows that there is no such walk."""
    check_shy(house, placing, faces, shy)
    if not is_pair(thing):
        return False
    kind, told = thing
    if kind == "room":
        return is_placed(placing, told) and faces[placing[told]] != told
    return kind == "rooms" and is_rooms_why(house, placing, faces, shy, told)


def is_rooms_why(house, placing, faces, shy, some):
    """Tells of any object whether it is a list of rooms to which nothing can be taken in, not all that are seen."""
    if some_fault(house, some) is not None or not all([room in some for room in placing.values()]):
        return False
    lots = ShyLots(house, placing, faces)
    taken = lots.bits_of(some)
    return not lots.is_all(taken) and lots.open_rooms(taken, shy) == 0
