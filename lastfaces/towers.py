"""Towers: houses one above another, with chutes that lead down."""

from lastfaces.errors import BadChutes, BadFloors, BadLandings, NoRoom
from lastfaces.houses import House, beside, is_room
from lastfaces.things import is_list, is_number_below, is_pair, unlike_fault


class Tower:
    """Floors with a landing each, and chutes from landings down to rooms of lower floors; a tower never changes."""

    def __init__(self, floors, landings, chutes):
        check_floors(floors)
        check_landings(floors, landings)
        self._floors = list(floors)
        self._landings = list(landings)
        self._floor_at = {}
        for index, floor in enumerate(self._floors):
            for room in floor.rooms():
                self._floor_at[room] = index
        check_chutes(self, chutes)
        self._chutes = sorted([chute_key(self, chute) for chute in chutes])
        rooms = [room for floor in self._floors for room in floor.rooms()]
        self._whole = House(rooms, [door for floor in self._floors for door in floor.doors()])

    def floors(self):
        """Returns the list of the floors, the lowest first."""
        return list(self._floors)

    def landings(self):
        """Returns the list of the landings, floor by floor."""
        return list(self._landings)

    def chutes(self):
        """Returns the ascending list of the chutes, pairs (floor, room)."""
        return list(self._chutes)

    def __eq__(self, other):
        return (isinstance(other, Tower) and self._floors == other._floors
                and self._landings == other._landings and self._chutes == other._chutes)


def check_floors(floors):
    """Raises BadFloors for what is no list of one or more houses without a common room."""
    if not is_list(floors) or len(floors) == 0:
        raise BadFloors(0)
    stood = {}
    for index, floor in enumerate(floors):
        if not isinstance(floor, House) or any([room in stood for room in floor.rooms()]):
            raise BadFloors(index)
        for room in floor.rooms():
            stood[room] = True


def check_landings(floors, landings):
    """Raises BadLandings for what is no list with a room of each floor."""
    if not is_list(landings):
        raise BadLandings(0)
    for index, thing in enumerate(landings):
        if index >= len(floors) or not is_room(floors[index], thing):
            raise BadLandings(index)
    if len(landings) < len(floors):
        raise BadLandings(len(landings))


def check_chutes(tower, chutes):
    """Raises BadChutes for what is no list of unlike pairs of a floor and a room of a lower one."""
    fault = unlike_fault(chutes, lambda thing: chute_key(tower, thing))
    if fault is not None:
        raise BadChutes(fault)


def chute_key(tower, thing):
    """Returns the pair of what is a pair of a floor and a room of a lower one, None of any other thing."""
    if not is_pair(thing) or not is_number_below(thing[0], len(tower._floors)):
        return None
    floor, room = thing
    return (floor, room) if isinstance(room, str) and tower._floor_at.get(room, floor) < floor else None


def whole_house(tower):
    """Returns the house of all rooms and doors, without the chutes."""
    return tower._whole


def floor_of(tower, room):
    """Returns the index of a room's floor."""
    if not is_room(whole_house(tower), room):
        raise NoRoom(room)
    return tower._floor_at[room]


def rooms_down(tower, room):
    """Returns the list of the rooms to which one can go from a room, by a door or down a chute."""
    down = [end for floor, end in tower._chutes if tower._landings[floor] == room]
    return beside(whole_house(tower), room) + down


def rooms_up(tower, room):
    """Returns the list of the rooms from which one can go to a room, by a door or down a chute."""
    up = [tower._landings[floor] for floor, end in tower._chutes if end == room]
    return beside(whole_house(tower), room) + up
