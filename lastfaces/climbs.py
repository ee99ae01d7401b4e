"""What people take in of a tower, turned about in time: they come up chutes and never down again."""

from lastfaces.roombits import RoomBits
from lastfaces.towers import floor_of, whole_house


class Climbs:
    """What people on floors of a tower can do next, some rooms being taken in.

    Rooms are told by bits. Barred is a dict from some people to rooms through which they do not come up.
    """

    def __init__(self, tower, placing, faces, barred):
        house = whole_house(tower)
        self._bits = RoomBits(house)
        self._floors = [self._bits.bits_of(floor.rooms()) for floor in tower.floors()]
        self._landings = [self._bits.bit(room) for room in tower.landings()]
        self._up = [(self._bits.bit(room), self._landings[floor]) for floor, room in tower.chutes()]
        self._own = {person: self._bits.bit(placing[person]) for person in sorted(placing)}
        self._own_floor = {person: floor_of(tower, placing[person]) for person in self._own}
        self._shows = {}
        for person in self._own:
            self._shows[person] = self._bits.bits_of([room for room in house.rooms() if faces[room] == person])
        self._barred = {person: self._bits.bits_of(barred.get(person, [])) for person in self._own}

    def bits_of(self, rooms):
        """Returns the number of a list of unlike rooms."""
        return self._bits.bits_of(rooms)

    def rooms_in(self, rooms):
        """Returns the ascending list of the rooms of a number."""
        return self._bits.rooms_in(rooms)

    def landing(self, floor):
        """Returns the landing of a floor."""
        return self._landings[floor]

    def taken_at_first(self):
        """Returns the rooms in which people stand."""
        return sum(list(self._own.values()))

    def own_floors(self):
        """Returns the dict from all people, ascending, to the floors of their rooms."""
        return dict(self._own_floor)

    def _lot(self, person, floor, taken):
        """Returns what is taken in of a floor and hangs together with a person's room there, or with the landing."""
        begin = self._own[person] if floor == self._own_floor[person] else self._landings[floor]
        return self._bits.reached(taken & self._floors[floor], begin)

    def open_rooms(self, person, floor, taken):
        """Returns the rooms that a person on a floor can take in."""
        lacking = self._shows[person] & self._floors[floor] & ~taken
        return lacking & self._bits.around(self._lot(person, floor, taken)) if lacking else 0

    def come_to(self, person, floor, taken):
        """Returns the rooms to which a person comes from its lot, by doors and up chutes, through rooms taken in."""
        free = taken & ~self._barred[person]
        found = self._lot(person, floor, taken)
        more = found
        while more:
            found = self._bits.reached(free, found | more)
            more = self._landings_above(found) & free & ~found
        return found

    def _landings_above(self, rooms):
        above = 0
        for room, landing in self._up:
            if room & rooms:
                above |= landing
        return above

    def comes_up_to(self, person, floor, taken):
        """Returns the floor to which a person on a floor can come up, as there is a room to be taken in, else None."""
        lacking = self._shows[person] & ~taken
        if not lacking or lacking & sum(self._floors[:floor + 1]):
            return None
        target = min([index for index, rooms in enumerate(self._floors) if rooms & lacking])
        is_free = self._landings[target] & (taken | self._shows[person])
        if not is_free or not self._landings_above(self.come_to(person, floor, taken)) & self._landings[target]:
            return None
        return target

    def could_be_on(self, person, floor, taken):
        """Tells whether a person can have come to a floor for a room that shows it, with nothing left out below."""
        own = self._own_floor[person]
        if floor <= own:
            return floor == own
        if not self._landings[floor] & taken or not self._shows[person] & self._floors[floor]:
            return False
        return self._shows[person] & sum(self._floors[own:floor]) & ~taken == 0


def gone_up(climbs):
    """Does all that can be done: returns a triple of the rooms taken in at last, of people's floors, and of the row.

    The row is the list of the pairs (person, room), rooms by name, of who comes next to which room.
    """
    taken = climbs.taken_at_first()
    floors = climbs.own_floors()
    row = []
    changed = True
    while changed:
        changed = False
        for person in list(floors):
            rooms = climbs.open_rooms(person, floors[person], taken)
            if not rooms:
                target = climbs.comes_up_to(person, floors[person], taken)
                if target is not None:
                    floors[person] = target
                    rooms = climbs.landing(target)
            row.extend([(person, room) for room in climbs.rooms_in(rooms)])
            taken |= rooms
            changed = changed or rooms > 0
    return taken, floors, row
