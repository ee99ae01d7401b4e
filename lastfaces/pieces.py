"""Pieces of greater houses, with gates to the rooms around."""

from lastfaces.errors import BadGates, BadGiven, BadPiece, NotShown
from lastfaces.houses import House, some_fault
from lastfaces.maps import check_placed_map, rooms_of, seen_rooms, shown
from lastfaces.roombits import RoomBits, grown_lots
from lastfaces.things import names_fault, new_names


class Piece:
    """A part of a greater house, who stands in it, and what it shows; a piece never changes."""

    def __init__(self, house, gates, placing, faces):
        fault = some_fault(house, gates)
        if fault is not None:
            raise BadGates(fault)
        check_placed_map(house, placing, faces)
        for person in sorted(placing):
            if faces[placing[person]] != person:
                raise NotShown(person)
        self._house = house
        self._gates = sorted(gates)
        self._placing = {person: placing[person] for person in sorted(placing)}
        self._faces = {room: faces[room] for room in house.rooms()}

    def house(self):
        """Returns the house of its own rooms."""
        return self._house

    def gates(self):
        """Returns the ascending list of the gates."""
        return list(self._gates)

    def placing(self):
        """Returns the placing of who stands within."""
        return dict(self._placing)

    def faces(self):
        """Returns the map of its rooms."""
        return dict(self._faces)

    def __eq__(self, other):
        return (isinstance(other, Piece) and self._house == other._house and self._gates == other._gates
                and self._placing == other._placing and self._faces == other._faces)


def check_piece(thing):
    """Raises BadPiece for what is no piece."""
    if not isinstance(thing, Piece):
        raise BadPiece(thing)


def outside_names(piece):
    """Returns the ascending list of those whom a piece's rooms show, but who do not stand within."""
    check_piece(piece)
    within = piece.placing()
    return [person for person in shown(piece.house(), piece.faces()) if person not in within]


def is_given(piece, thing):
    """Tells of any object whether it is a dict from gates to lists of people, of two gates the same or apart."""
    check_piece(piece)
    if not isinstance(thing, dict) or not all([gate in piece.gates() for gate in thing]):
        return False
    lists = list(thing.values())
    if not all([names_fault(people) is None and len(people) > 0 for people in lists]):
        return False
    return all([are_same_or_apart(one, other) for one in lists for other in lists])


def are_same_or_apart(one, other):
    """Tells whether two lists have the same people, or nobody in common."""
    return sorted(one) == sorted(other) or not any([person in other for person in one])


def check_given(piece, given):
    """Raises BadPiece for what is no piece, then BadGiven for what cannot be given to it."""
    if not is_given(piece, given):
        raise BadGiven(given)


class Within:
    """The last lots of a piece, those of the given people among them, with the given rooms around."""

    def __init__(self, piece, given):
        inner = piece.house()
        gates = sorted(given)
        self._around = dict(zip(gates, new_names(len(gates), inner.rooms())))
        doors = [(gate, self._around[gate]) for gate in gates]
        self._bits = RoomBits(House(inner.rooms() + list(self._around.values()), inner.doors() + doors))
        self._names = sorted(set(list(piece.placing()) + [person for people in given.values() for person in people]))
        lots = [self._lot(piece, given, index) for index in range(len(self._names))]
        self._last, _ = grown_lots(self._bits, lots, self._bits.bits_of(inner.rooms()))

    def _lot(self, piece, given, index):
        """Returns the lot of one person: those with a given room around in common are made one."""
        name = self._names[index]
        begins = [self._around[gate] for gate in given if name in given[gate]]
        if name in piece.placing():
            begins.append(piece.placing()[name])
        rooms = self._bits.bits_of(begins)
        shows = self._bits.bits_of(rooms_of(piece.house(), piece.faces(), name))
        return 1 << index, rooms, self._bits.around(rooms), shows

    def taken(self):
        """Returns the ascending list of the rooms in lots, those around among them."""
        return self._bits.rooms_in(sum([rooms for _, rooms, _, _ in self._last]))

    def seen_from(self, gate):
        """Returns the ascending list of the people of the lot of the given room around a gate, or else of the gate."""
        bit = self._bits.bit(self._around.get(gate, gate))
        members = sum([people for people, rooms, _, _ in self._last if rooms & bit])
        return [name for index, name in enumerate(self._names) if (members >> index) & 1]


def seen_at(piece, given):
    """Returns the dict from all gates to the people who are at last of the lot of the given room around, or there."""
    check_given(piece, given)
    within = Within(piece, given)
    return {gate: within.seen_from(gate) for gate in piece.gates()}


def is_whole(piece, given):
    """Tells whether all rooms of a piece that show somebody are taken in."""
    check_given(piece, given)
    taken = Within(piece, given).taken()
    return all([room in taken for room in seen_rooms(piece.house(), piece.faces())])


def never_whole(piece):
    """Tells whether a piece is whole with nothing that could be given and names nobody who stands within."""
    outside = outside_names(piece)
    everybody = outside + new_names(1, shown(piece.house(), piece.faces()))
    return not is_whole(piece, {gate: everybody for gate in piece.gates()})
