"""Pieces that are alike, and what parts them: something around by which just one of both maps goes."""

from lastfaces.builders import Builder
from lastfaces.errors import BadAround, UnlikeGates, UnlikePeople
from lastfaces.houses import House, is_room
from lastfaces.maps import is_map, is_placing
from lastfaces.otherhouses import joined_by
from lastfaces.pieces import Within, check_piece, never_whole, outside_names
from lastfaces.therule import goes_with
from lastfaces.things import is_list, is_pair, new_names, unlike_fault


def check_pieces(one, other):
    """Raises BadPiece, UnlikeGates or UnlikePeople for pieces that cannot be alike."""
    check_piece(one)
    check_piece(other)
    if one.gates() != other.gates():
        raise UnlikeGates()
    if list(one.placing()) != list(other.placing()):
        raise UnlikePeople()


def alike_pieces(one, other):
    """Tells whether both maps go, or neither does, whatever is around."""
    check_pieces(one, other)
    return parting_given(one, other) is None


def parting_house(one, other):
    """Returns None for pieces that are alike, else something around by which just one of both maps goes."""
    check_pieces(one, other)
    told = parting_given(one, other)
    if told is None:
        return None
    given, gate, person = told
    around = Surroundings(one.house().rooms() + other.house().rooms(), given)
    if gate is not None:
        around.wait_for(gate, person, one.gates(), names_of(one, other))
    return around.told(one.gates())


def names_of(one, other):
    """Returns the ascending list of the outside names of both of two pieces."""
    return sorted(set(outside_names(one) + outside_names(other)))


def parting_given(one, other):
    """Returns None for pieces that are alike, else a triple (given, gate, person) by which they are not.

    If so given just one is whole, gate and person are None. Else just one sees this person at this gate.
    """
    if never_whole(one) and never_whole(other):
        return None
    within, other_within = Within(one), Within(other)
    found = None
    for given in all_given(one.gates(), names_of(one, other), list(one.placing())):
        lots, other_lots = within.lots(given), other_within.lots(given)
        if within.is_whole_by(lots) != other_within.is_whole_by(other_lots):
            return given, None, None
        if found is None:
            unlike = first_unlike(within.seen_by(lots, given), other_within.seen_by(other_lots, given))
            found = None if unlike is None else (given, *unlike)
    return found


def first_unlike(seen, other):
    """Returns the first pair (gate, person) of who is seen at a gate by one of two alone, None if there is none."""
    for gate in seen:
        for person in sorted(set(seen[gate] + other[gate])):
            if (person in seen[gate]) != (person in other[gate]):
                return gate, person
    return None


def all_given(gates, names, within):
    """Returns the list of all that could be given to pieces of such gates, names being those that they show.

    A new person tells no more than the names of its lot: so there is one of its own where a lot has no name.
    """
    new = new_names(len(gates), names + within)
    told = []
    for lots in shared_gates(gates):
        many = len(set(list(lots.values())))
        for shares in shared_names(names, many):
            lists = [[name for name in shares if shares[name] == lot] or [new[lot]] for lot in range(many)]
            told.append({gate: lists[lots[gate]] for gate in lots})
    return told


def shared_gates(gates):
    """Returns the list of the dicts from some gates to numbers of lots, each way to share them out being told once."""
    told = [{}]
    for gate in gates:
        more = []
        for lots in told:
            more.append(lots)
            more.extend([{**lots, gate: lot} for lot in range(max(list(lots.values()), default=-1) + 2)])
        told = more
    return told


def shared_names(names, many):
    """Returns the list of the dicts from names to numbers of lots below many, or None for those that are in none."""
    told = [{}]
    for name in names:
        told = [{**shares, name: lot} for shares in told for lot in [None, *list(range(many))]]
    return told


class Surroundings:
    """What is built around pieces with some rooms so that just this is given to them."""

    def __init__(self, rooms, given):
        self._builder = Builder(rooms)
        self._given = given
        self._doors = {}
        # Where the first person of each list stands: all others of the list stand beside it.
        self._begun = {}
        for gate in sorted(given):
            people = given[gate]
            if people[0] not in self._begun:
                self._begun[people[0]] = self._builder.build_for(people[0], [])
                for person in people[1:]:
                    self._builder.build_for(person, [self._begun[people[0]]])
            self._doors[gate] = self._begun[people[0]]

    def wait_for(self, gate, person, gates, names):
        """Has somebody wait who joins all lots, at all gates, as soon as a person is seen at a gate."""
        new = [people[0] for people in self._given.values()]
        waiting = new_names(1, names + new + [person])[0]
        shows = self._builder.build(person, [self._doors[gate]] if gate in self._doors else [])
        self._doors.setdefault(gate, shows)
        stood = self._builder.build_for(waiting, [shows])
        named = [name for people in self._given.values() for name in people]
        for name in names:
            if name not in named:
                self._builder.build_for(name, [stood])
        for begun in list(self._begun.values()):
            self._builder.build(waiting, [shows, begun])
        for other in gates:
            if other not in self._doors:
                self._doors[other] = self._builder.build(waiting, [shows])

    def told(self, gates):
        """Returns what is around: at gates at which nothing is built a room that shows nobody."""
        nobody = self._builder.build(None, [])
        doors = [(gate, self._doors.get(gate, nobody)) for gate in gates]
        return self._builder.house(), self._builder.placing(), self._builder.faces(), doors


def is_around(piece, thing):
    """Tells of any object whether it is something that could be around a piece."""
    if not is_list(thing) or len(thing) != 4 or not isinstance(thing[0], House):
        return False
    house, placing, faces, doors = thing
    if any([is_room(piece.house(), room) for room in house.rooms()]):
        return False
    if not is_placing(house, placing) or any([person in piece.placing() for person in placing]):
        return False
    return is_map(house, faces) and are_gate_doors(piece, house, doors)


def are_gate_doors(piece, house, thing):
    """Tells of any object whether it is a list of pairs (gate, room of a house), one for each gate of a piece."""
    return unlike_fault(thing, lambda door: gate_of(piece, house, door)) is None and len(thing) == len(piece.gates())


def gate_of(piece, house, thing):
    """Returns the gate of a pair (gate, room of a house), None of any other thing."""
    if not is_pair(thing) or thing[0] not in piece.gates() or not is_room(house, thing[1]):
        return None
    return thing[0]


def is_parting(one, other, thing):
    """Tells of any object whether it is something around both by which just one of both maps goes."""
    check_pieces(one, other)
    if not is_around(one, thing) or not is_around(other, thing):
        return False
    whole, other_whole = set_in(one, thing), set_in(other, thing)
    return goes_with(*whole) != goes_with(*other_whole)


def set_in(piece, around):
    """Returns the triple (house, placing, faces) of a piece and what is around it."""
    check_piece(piece)
    if not is_around(piece, around):
        raise BadAround(around)
    house, placing, faces, doors = around
    whole = joined_by(piece.house(), house, doors)
    stood = {**piece.placing(), **placing}
    seen = {**piece.faces(), **faces}
    return whole, {person: stood[person] for person in sorted(stood)}, {room: seen[room] for room in whole.rooms()}
