"""Rings of doors, and what rooms want in a house without one."""

from lastfaces.errors import HasRing
from lastfaces.houses import beside
from lastfaces.maps import check_placed_map
from lastfaces.ways import way


def pruned(further, least):
    """Returns what is left of a dict from rooms to lists of rooms.

    Again and again the rooms that have fewer than least rooms further on are dropped, from the lists, too.
    """
    left = further
    while True:
        kept = {room: [near for near in left[room] if near in left] for room in left}
        kept = {room: kept[room] for room in kept if len(kept[room]) >= least}
        if len(kept) == len(left):
            return kept
        left = kept


def ring_along(first, next_of):
    """Returns the ring into which one comes who goes on from a room, by a function of the room ahead and the room."""
    gone = []
    ahead, room = None, first
    while room not in gone:
        gone.append(room)
        ahead, room = room, next_of(ahead, room)
    return gone[gone.index(room):]


def ring_of_doors(house):
    """Returns a list of three or more rooms, each beside the next one, the last one beside the first, else None."""
    near = pruned({room: beside(house, room) for room in house.rooms()}, 2)
    if not near:
        return None
    return ring_along(min(near), lambda ahead, room: [other for other in near[room] if other != ahead][0])


def check_no_ring(house):
    """Raises HasRing for a house with a ring of doors."""
    if ring_of_doors(house) is not None:
        raise HasRing()


def wanted(house, one, room):
    """Returns the ascending list of the rooms on the way from one to a room, without it, None if none leads there."""
    rooms = way(house, one, room)
    return None if rooms is None else sorted(rooms[:-1])


def wants(house, placing, faces):
    """Returns the dict from the rooms that show a placed person to the lists of the rooms that they want."""
    check_placed_map(house, placing, faces)
    check_no_ring(house)
    rooms = [room for room in house.rooms() if faces[room] in placing]
    return {room: wanted(house, placing[faces[room]], room) for room in rooms}


def ring_of_wants(house, placing, faces):
    """Returns a list of rooms, each of which wants the next one, the last one the first, None if there is none."""
    told = wants(house, placing, faces)
    near = pruned({room: told[room] or [] for room in told}, 1)
    return ring_along(min(near), lambda ahead, room: near[room][0]) if near else None
