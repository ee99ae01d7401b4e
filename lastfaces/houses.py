"""Houses of rooms and doors."""

from lastfaces.errors import BadDoors, BadRooms, BadSome, NoRoom
from lastfaces.things import is_pair, names_fault, unlike_fault


class House:
    """Rooms and the doors between them; a house never changes."""

    def __init__(self, rooms, doors):
        check_rooms(rooms)
        self._rooms = sorted(rooms)
        self._near = {room: [] for room in self._rooms}
        check_doors(self, doors)
        self._doors = sorted([door_key(self, door) for door in doors])
        # The doors ascend, so each of these lists does, too.
        for one, other in self._doors:
            self._near[one].append(other)
            self._near[other].append(one)

    def rooms(self):
        """Returns the ascending list of the rooms."""
        return list(self._rooms)

    def doors(self):
        """Returns the ascending list of the doors, pairs (one, other) with one ahead of other."""
        return list(self._doors)

    def __len__(self):
        return len(self._rooms)

    def __eq__(self, other):
        return isinstance(other, House) and self._rooms == other._rooms and self._doors == other._doors


def check_rooms(rooms):
    """Raises BadRooms for what is no list of one or more unlike names."""
    fault = names_fault(rooms)
    if fault is None and len(rooms) == 0:
        fault = 0
    if fault is not None:
        raise BadRooms(fault)


def check_doors(house, doors):
    """Raises BadDoors for what is no list of unlike pairs of unlike rooms of a house."""
    fault = unlike_fault(doors, lambda thing: door_key(house, thing))
    if fault is not None:
        raise BadDoors(fault)


def door_key(house, thing):
    """Returns the ascending pair of the rooms of what could be a door of a house, None of any other thing."""
    if not is_pair(thing) or not is_room(house, thing[0]) or not is_room(house, thing[1]):
        return None
    return None if thing[0] == thing[1] else tuple(sorted(thing))


def is_room(house, thing):
    """Tells of any object whether it is a room of a house."""
    return isinstance(thing, str) and thing in house._near


def check_room(house, thing):
    """Raises NoRoom for what is no room of a house."""
    if not is_room(house, thing):
        raise NoRoom(thing)


def some_fault(house, some):
    """Returns the index of the first thing that is no room or stood before: 0 for no list, None if there is none."""
    return unlike_fault(some, lambda thing: thing if is_room(house, thing) else None)


def check_some(house, some):
    """Raises BadSome for what is no list of unlike rooms of a house."""
    fault = some_fault(house, some)
    if fault is not None:
        raise BadSome(fault)


def beside(house, room):
    """Returns the ascending list of the rooms a door further."""
    check_room(house, room)
    return list(house._near[room])
