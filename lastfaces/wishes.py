"""Orders that keep wishes: one room ahead of another."""

from lastfaces.errors import BadWishes
from lastfaces.houses import beside
from lastfaces.lotsbyrows import Lots
from lastfaces.orders import left_rooms
from lastfaces.things import is_list, is_pair, unlike_fault
from lastfaces.ways import reached


def wishes_fault(rooms, wishes):
    """Returns the index of the first thing that is no pair of left rooms: 0 for no list, None if there is none."""
    if not is_list(wishes):
        return 0
    for index, thing in enumerate(wishes):
        if not is_pair(thing) or thing[0] not in rooms or thing[1] not in rooms:
            return index
    return None


def check_wishes(house, placing, faces, wishes):
    """Raises BadPlacing, BadMap, NoWalks or BadWishes for the first thing that is wrong."""
    fault = wishes_fault(left_rooms(house, placing, faces), wishes)
    if fault is not None:
        raise BadWishes(fault)


def wished_ahead(wishes, room):
    """Returns the list of the rooms that are wished ahead of a room."""
    return [one for one, other in wishes if other == room]


def row_by_wishes(house, placing, faces, wishes):
    """Returns a row as long as can be of left rooms, each behind all that are wished ahead of it."""
    lots = Lots(house, placing, faces)
    row = []
    while True:
        rooms = [room for room in lots.open_rooms() if all([one in row for one in wished_ahead(wishes, room)])]
        if not rooms:
            return row
        for room in rooms:
            lots.take(room)
            row.append(room)


def order_with(house, placing, faces, wishes):
    """Returns an order that keeps all wishes, None if there is none."""
    check_wishes(house, placing, faces, wishes)
    row = row_by_wishes(house, placing, faces, wishes)
    return row if len(row) == len(left_rooms(house, placing, faces)) else None


def wish_paper(house, placing, faces, wishes):
    """Returns None if an order keeps all wishes, else the ascending list of the left rooms that stay out."""
    check_wishes(house, placing, faces, wishes)
    row = row_by_wishes(house, placing, faces, wishes)
    out = [room for room in left_rooms(house, placing, faces) if room not in row]
    return out if out else None


def is_wish_paper(house, placing, faces, wishes, thing):
    """Tells of any object whether it is a list of left rooms none of which can be the first one of them taken."""
    check_wishes(house, placing, faces, wishes)
    rooms = left_rooms(house, placing, faces)
    if unlike_fault(thing, lambda part: part if part in rooms else None) is not None or len(thing) == 0:
        return False
    free = list(placing.values()) + [room for room in rooms if room not in thing]
    for room in thing:
        is_wished_behind = any([one in thing for one in wished_ahead(wishes, room)])
        if not is_wished_behind and is_beside_own(house, placing, faces, free, room):
            return False
    return True


def is_beside_own(house, placing, faces, free, room):
    """Tells whether a room is beside one that hangs together with its person's through free rooms alone."""
    found = reached(house, free, placing[faces[room]])
    return any([near in found for near in beside(house, room)])
