"""Rooms that people take in by turns, each going as far as it can."""

from lastfaces.errors import BadTurns
from lastfaces.maps import check_placed_map
from lastfaces.roombits import RoomBits
from lastfaces.therule import is_placed
from lastfaces.things import is_list


class Takings:
    """What people take in by turns; rooms are told by bits."""

    def __init__(self, house, placing, faces):
        self._bits = RoomBits(house)
        self._own = {person: self._bits.bit(placing[person]) for person in sorted(placing)}
        self._shows = {}
        for person in self._own:
            self._shows[person] = self._bits.bits_of([room for room in house.rooms() if faces[room] == person])
        self._seen = self._bits.bits_of([room for room in house.rooms() if faces[room] is not None])

    def all_names(self):
        """Returns the ascending list of the people."""
        return list(self._own)

    def at_first(self):
        """Returns the rooms in which people stand."""
        return sum(list(self._own.values()))

    def rooms_in(self, bits):
        """Returns the ascending list of the rooms of a number."""
        return self._bits.rooms_in(bits)

    def taken_by(self, person, taken):
        """Returns the rooms that a person takes in by a turn when some are taken in."""
        through = taken | self._shows[person]
        return self._bits.reached(through, self._own[person]) & ~taken

    def left(self, taken):
        """Returns the rooms that show somebody and are not taken in."""
        return self._seen & ~taken

    def lacking(self, person, taken):
        """Returns the rooms that show a person and are not taken in."""
        return self._shows[person] & ~taken


def turns_fault(placing, row):
    """Returns the index of the first thing that is no person of a placing: 0 for no list, None if there is none."""
    if not is_list(row):
        return 0
    for index, thing in enumerate(row):
        if not is_placed(placing, thing):
            return index
    return None


def turns_taken(house, placing, faces, row):
    """Returns the pair of the list of what each turn of a row takes in, and of what is then left, told by rooms."""
    check_placed_map(house, placing, faces)
    fault = turns_fault(placing, row)
    if fault is not None:
        raise BadTurns(fault)
    takings = Takings(house, placing, faces)
    taken = takings.at_first()
    told = []
    for person in row:
        more = takings.taken_by(person, taken)
        told.append(takings.rooms_in(more))
        taken |= more
    return told, takings.rooms_in(takings.left(taken))


def taken_by(house, placing, faces, row):
    """Returns the list, turn by turn, of the lists of the rooms that the people of a row take in."""
    told, _ = turns_taken(house, placing, faces, row)
    return told


def first_left(house, placing, faces, row):
    """Returns the first room that shows somebody and that the turns of a row leave, None if there is none."""
    _, left = turns_taken(house, placing, faces, row)
    return left[0] if left else None
