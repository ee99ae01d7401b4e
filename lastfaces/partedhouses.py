"""Claims, and whether houses let them."""

from lastfaces.errors import BadClaims, UnlikeRooms
from lastfaces.houses import is_room
from lastfaces.maps import is_map, is_placing
from lastfaces.therule import goes_with
from lastfaces.things import is_list, is_pair


def is_claim(house, thing):
    """Tells of any object whether it is a pair of a placing and a map of a house's rooms."""
    return is_pair(thing) and is_placing(house, thing[0]) and is_map(house, thing[1])


def check_claims(house, claims):
    """Raises BadClaims for what is no list of claims."""
    if not is_list(claims):
        raise BadClaims(0)
    for index, claim in enumerate(claims):
        if not is_claim(house, claim):
            raise BadClaims(index)


def lets(house, claims):
    """Returns the list of the truths whether a house lets claims."""
    check_claims(house, claims)
    return [goes_with(house, placing, faces) for placing, faces in claims]


def check_same_rooms(one, other):
    """Raises UnlikeRooms with the first room that just one of two houses has."""
    for room in sorted(set(one.rooms() + other.rooms())):
        if not is_room(one, room) or not is_room(other, room):
            raise UnlikeRooms(room)


def door_claim(rooms, one, other):
    """Returns the claim that somebody stands in one of two rooms and is shown in just both: a door lets it."""
    return {"x": one}, {room: "x" if room in (one, other) else None for room in sorted(rooms)}


def parting_claim(one, other):
    """Returns a claim that just one of two houses lets, None if they let the same ones."""
    check_same_rooms(one, other)
    doors, other_doors = one.doors(), other.doors()
    for near, far in doors + other_doors:
        if (near, far) not in doors or (near, far) not in other_doors:
            return door_claim(one.rooms(), near, far)
    return None


def is_parting_claim(one, other, thing):
    """Tells of any object whether it is a claim that just one of two houses lets."""
    check_same_rooms(one, other)
    return is_claim(one, thing) and goes_with(one, *thing) != goes_with(other, *thing)
