"""Pieces of greater houses, with gates to the rooms around."""

from lastfaces.errors import BadGates, BadGiven, BadPiece, NotShown
from lastfaces.houses import House, some_fault
from lastfaces.maps import check_placed_map, rooms_of, seen_rooms, shown
from lastfaces.roombits import RoomBits, grown_lots
from lastfaces.things import names_fault, new_names


class Piece:
    """A part of a greater house, who stands in it, and what it shows; a piece never changes."""

    def __init__(self, house, gates, placing, faces):
        fault = some_fault(house, gates)
        if fault is not None:
            raise BadGates(fault)
        check_placed_map(house, placing, faces)
        for person in sorted(placing):
            if faces[placing[person]] != person:
                raise NotShown(person)
        self._house = house
        self._gates = sorted(gates)
        self._placing = {person: placing[person] for person in sorted(placing)}
        self._faces = {room: faces[room] for room in house.rooms()}

    def house(self):
        """Returns the house of its own rooms."""
        return self._house

    def gates(self):
        """Returns the ascending list of the gates."""
        return list(self._gates)

    def placing(self):
        """Returns the placing of who stands within."""
        return dict(self._placing)

    def faces(self):
        """Returns the map of its rooms."""
        return dict(self._faces)

    def __eq__(self, other):
        return (isinstance(other, Piece) and self._house == other._house and self._gates == other._gates
                and self._placing == other._placing and self._faces == other._faces)


def check_piece(thing):
    """Raises BadPiece for what is no piece."""
    if not isinstance(thing, Piece):
        raise BadPiece(thing)


def outside_names(piece):
    """Returns the ascending list of those whom a piece's rooms show, but who do not stand within."""
    check_piece(piece)
    within = piece.placing()
    return [person for person in shown(piece.house(), piece.faces()) if person not in within]


def is_given(piece, thing):
    """Tells of any object whether it is a dict from gates to lists of people, of two gates the same or apart."""
    check_piece(piece)
    if not isinstance(thing, dict) or not all([gate in piece.gates() for gate in thing]):
        return False
    lists = list(thing.values())
    if not all([names_fault(people) is None and len(people) > 0 for people in lists]):
        return False
    return all([are_same_or_apart(one, other) for one in lists for other in lists])


def are_same_or_apart(one, other):
    """Tells whether two lists have the same people, or nobody in common."""
    return sorted(one) == sorted(other) or not any([person in other for person in one])


def check_given(piece, given):
    """Raises BadPiece for what is no piece, then BadGiven for what cannot be given to it."""
    if not is_given(piece, given):
        raise BadGiven(given)


class Within:
    """What lots take in within a piece, whatever is given to it; rooms, those around gates too, are told by bits."""

    def __init__(self, piece):
        inner = piece.house()
        gates = piece.gates()
        self._around = dict(zip(gates, new_names(len(gates), inner.rooms())))
        doors = [(gate, self._around[gate]) for gate in gates]
        self._bits = RoomBits(House(inner.rooms() + list(self._around.values()), inner.doors() + doors))
        self._free = self._bits.bits_of(inner.rooms())
        self._own = {person: self._bits.bit(room) for person, room in piece.placing().items()}
        faces = piece.faces()
        self._seen_rooms = self._bits.bits_of(seen_rooms(inner, faces))
        self._shows = {name: self._bits.bits_of(rooms_of(inner, faces, name)) for name in shown(inner, faces)}

    def _lot(self, given, index, name):
        """Returns the lot of one person: those with a given room around in common are made one."""
        begins = [self._around[gate] for gate in given if name in given[gate]]
        rooms = self._bits.bits_of(begins) | self._own.get(name, 0)
        return 1 << index, rooms, self._bits.around(rooms), self._shows.get(name, 0)

    def lots(self, given):
        """Returns the list of the last lots, pairs of the ascending list of the people and the number of the rooms."""
        names = sorted(set(list(self._own) + [person for people in given.values() for person in people]))
        begun = [self._lot(given, index, name) for index, name in enumerate(names)]
        last, _ = grown_lots(self._bits, begun, self._free)
        told = []
        for people, rooms, _, _ in last:
            told.append(([name for index, name in enumerate(names) if (people >> index) & 1], rooms))
        return told

    def seen_by(self, lots, given):
        """Returns the dict from all gates to the people of the lot of the given room around, or else of the gate."""
        told = {}
        for gate in self._around:
            bit = self._bits.bit(self._around[gate] if gate in given else gate)
            told[gate] = [name for people, rooms in lots if rooms & bit for name in people]
        return told

    def is_whole_by(self, lots):
        """Tells whether last lots have taken in all rooms that show somebody."""
        return self._seen_rooms & ~sum([rooms for _, rooms in lots]) == 0


def seen_at(piece, given):
    """Returns the dict from all gates to the people who are at last of the lot of the given room around, or there."""
    check_given(piece, given)
    within = Within(piece)
    return within.seen_by(within.lots(given), given)


def is_whole(piece, given):
    """Tells whether all rooms of a piece that show somebody are taken in."""
    check_given(piece, given)
    within = Within(piece)
    return within.is_whole_by(within.lots(given))


def never_whole(piece):
    """Tells whether a piece is whole with nothing that could be given and names nobody who stands within."""
    outside = outside_names(piece)
    everybody = outside + new_names(1, shown(piece.house(), piece.faces()))
    return not is_whole(piece, {gate: everybody for gate in piece.gates()})
