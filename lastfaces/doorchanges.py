"""Doors without which a map does not go, and doors that let it go."""

from lastfaces.houses import House
from lastfaces.maps import check_placed_map, rooms_of, seen_rooms, shown
from lastfaces.otherhouses import without_door
from lastfaces.roombits import RoomBits, bits_in, grown_lots, lot_of_all, single_lots
from lastfaces.therule import check_goes, goes_with


class Building:
    """The last lots of a placing and a map, and how they go on when doors are built."""

    def __init__(self, house, placing, faces):
        self._bits = RoomBits(house)
        names = sorted(placing)
        own = [self._bits.bit(placing[person]) for person in names]
        shows = [self._bits.bits_of(rooms_of(house, faces, person)) for person in names]
        self._seen = self._bits.bits_of(seen_rooms(house, faces))
        self._begun = self._grown(single_lots(self._bits, own, shows))

    def _grown(self, lots):
        return grown_lots(self._bits, lots, self._seen)[0]

    def begun(self):
        """Returns the last lots as long as no door is built."""
        return list(self._begun)

    def is_done(self, lots):
        """Tells whether all rooms that show somebody are in lots."""
        return self._seen & ~sum([lot[1] for lot in lots]) == 0

    def further(self, lots):
        """Returns the list of the triples (rooms, rooms, lots behind) of doors between both that let lots go on.

        Such a door makes two lots one, or lets a lot take a room; between which of their rooms is all the same.
        """
        left = self._seen & ~sum([lot[1] for lot in lots])
        told = []
        for index, lot in enumerate(lots):
            for other in lots[index + 1:]:
                told.append((lot[1], other[1], self._behind(lots, lot, other)))
            for bit in bits_in(lot[3] & left):
                told.append((lot[1], bit, self._behind(lots, lot, (0, bit, self._bits.around(bit), 0))))
        return told

    def _behind(self, lots, lot, more):
        return self._grown([lot_of_all([lot, more])] + [kept for kept in lots if kept[0] not in (lot[0], more[0])])

    def fewest(self):
        """Returns the least number of doors behind which all is done: each one lets lots go on, in some order."""
        edge = [self.begun()]
        found = {}
        many = 0
        while not any([self.is_done(lots) for lots in edge]):
            behind = {}
            for lots in edge:
                for _, _, more in self.further(lots):
                    behind[tuple(sorted([(people, rooms) for people, rooms, _, _ in more]))] = more
            edge = [behind[key] for key in behind if key not in found]
            found.update(behind)
            many += 1
        return many

    def mending(self):
        """Returns the ascending list of the pairs of rooms such that a door between them lets all be done."""
        told = []
        for one, other, behind in self.further(self._begun):
            if self.is_done(behind):
                told.extend([tuple(sorted([near, far])) for near in self._bits.rooms_in(one)
                             for far in self._bits.rooms_in(other)])
        return sorted(told)


def can_go(house, placing, faces):
    """Tells whether a map goes if doors are built: placed people's rooms show them, and nobody else is shown."""
    if any([faces[placing[person]] != person for person in placing]):
        return False
    return all([person in placing for person in shown(house, faces)])


def needed_doors(house, placing, faces):
    """Returns the ascending list of the doors without each of which, alone, a map does not go with a placing."""
    check_goes(house, placing, faces)
    return [(one, other) for one, other in house.doors()
            if not goes_with(without_door(house, one, other), placing, faces)]


def mending_doors(house, placing, faces):
    """Returns the ascending list of the pairs of rooms with a door between each of which, alone, a map goes.

    There are none for a map that goes by now.
    """
    check_placed_map(house, placing, faces)
    if not can_go(house, placing, faces):
        return []
    building = Building(house, placing, faces)
    return [] if building.is_done(building.begun()) else building.mending()


def fewest_doors(house, placing, faces):
    """Returns the least number of doors that, built, let a map go with a placing, None if no doors do."""
    check_placed_map(house, placing, faces)
    return Building(house, placing, faces).fewest() if can_go(house, placing, faces) else None


def built_doors(house, placing, faces):
    """Returns the first of the shortest ascending lists of doors that let a map go with a placing, None if none do."""
    many = fewest_doors(house, placing, faces)
    if many is None:
        return None
    built = []
    while len(built) < many:
        one, other = first_door(house, placing, faces, many - len(built))
        built.append((one, other))
        house = House(house.rooms(), house.doors() + [(one, other)])
    return built


def first_door(house, placing, faces, many):
    """Returns the first pair of rooms such that with a door between them fewer than so many doors are left to build."""
    doors = house.doors()
    for one in house.rooms():
        for other in house.rooms():
            if one < other and (one, other) not in doors:
                if Building(House(house.rooms(), doors + [(one, other)]), placing, faces).fewest() < many:
                    return one, other
    return None
