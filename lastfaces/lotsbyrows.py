"""Lots of people, and the rooms that they take in one behind another."""

from lastfaces.errors import BadRow
from lastfaces.houses import beside, is_room
from lastfaces.maps import check_placed_map
from lastfaces.things import is_list


class Lots:
    """The lots of a placing, which take in rooms by a map and are made one where they touch."""

    def __init__(self, house, placing, faces):
        self._house = house
        self._faces = dict(faces)
        # Each lot has a number, under which its people and its rooms are kept.
        self._people_in = {}
        self._rooms_in = {}
        self._lot_with = {}
        self._lot_at = {}
        for number, person in enumerate(sorted(placing)):
            self._people_in[number] = [person]
            self._rooms_in[number] = []
            self._lot_with[person] = number
            self._put(placing[person], number)

    def _put(self, room, number):
        self._rooms_in[number].append(room)
        self._lot_at[room] = number
        for near in beside(self._house, room):
            if self._lot_at.get(near, number) != number:
                self._make_one(number, self._lot_at[near])

    def _make_one(self, number, other):
        people = self._people_in.pop(other)
        rooms = self._rooms_in.pop(other)
        for person in people:
            self._lot_with[person] = number
        for room in rooms:
            self._lot_at[room] = number
        self._people_in[number].extend(people)
        self._rooms_in[number].extend(rooms)

    def has_room(self, room):
        """Tells whether a room is in a lot."""
        return room in self._lot_at

    def lot_rooms(self, person):
        """Returns the rooms of the lot of a placed person."""
        return list(self._rooms_in[self._lot_with[person]])

    def can_be_taken(self, thing):
        """Tells of any object whether it is a room that can be taken."""
        if not is_room(self._house, thing) or self.has_room(thing):
            return False
        # None, too, is nobody's lot: neither of who is not placed nor of a room that shows nobody.
        number = self._lot_with.get(self._faces[thing])
        if number is None:
            return False
        return any([self._lot_at.get(near) == number for near in beside(self._house, thing)])

    def open_rooms(self):
        """Returns the ascending list of the rooms that can be taken."""
        return [room for room in self._house.rooms() if self.can_be_taken(room)]

    def take(self, room):
        """Takes a room that can be taken."""
        self._put(room, self._lot_with[self._faces[room]])

    def told(self):
        """Returns the ascending list of the lots."""
        return sorted([(sorted(self._people_in[k]), sorted(self._rooms_in[k])) for k in self._people_in])


def take_row(lots, row):
    """Has lots take the rooms of a row: returns the index of the first thing that cannot be taken, else None."""
    if not is_list(row):
        return 0
    for index, thing in enumerate(row):
        if not lots.can_be_taken(thing):
            return index
        lots.take(thing)
    return None


def take_rounds(lots):
    """Has lots take rooms as long as any can be: returns the list of the lists of these, round by round."""
    rounds = []
    taken = lots.open_rooms()
    while taken:
        for room in taken:
            lots.take(room)
        rounds.append(taken)
        taken = lots.open_rooms()
    return rounds


def lots_after(house, placing, faces, row):
    """Returns the lots as they are behind a row."""
    check_placed_map(house, placing, faces)
    lots = Lots(house, placing, faces)
    fault = take_row(lots, row)
    if fault is not None:
        raise BadRow(fault)
    return lots


def row_fault(house, placing, faces, row):
    """Returns the index of the first thing in a row that cannot be taken there, 0 for no list, None if all can."""
    check_placed_map(house, placing, faces)
    return take_row(Lots(house, placing, faces), row)


def can_take(house, placing, faces, row):
    """Returns the ascending list of the rooms that can be taken behind a row."""
    lots = lots_after(house, placing, faces, row)
    return lots.open_rooms()


def lots_behind(house, placing, faces, row):
    """Returns the ascending list of the lots behind a row."""
    lots = lots_after(house, placing, faces, row)
    return lots.told()
