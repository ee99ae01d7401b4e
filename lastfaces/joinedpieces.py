"""Pieces put together by doors between their gates, and what is handed to and fro at these."""

from lastfaces.errors import BadDoors, CommonPerson, CommonRoom
from lastfaces.houses import is_room
from lastfaces.otherhouses import joined_by
from lastfaces.pieces import Piece, Within, check_given, check_piece
from lastfaces.things import is_list, is_pair


def joined_pieces(one, other, doors):
    """Returns the piece of two with doors (gate of one, gate of other); the gates left are its gates."""
    check_joining(one, other, doors)
    house = joined_by(one.house(), other.house(), doors)
    used = [gate for door in doors for gate in door]
    gates = [gate for gate in one.gates() + other.gates() if gate not in used]
    return Piece(house, gates, {**one.placing(), **other.placing()}, {**one.faces(), **other.faces()})


def check_joining(one, other, doors):
    """Raises BadPiece, CommonRoom, CommonPerson or BadDoors for what cannot be put together."""
    check_piece(one)
    check_piece(other)
    for room in one.house().rooms():
        if is_room(other.house(), room):
            raise CommonRoom(room)
    for person in one.placing():
        if person in other.placing():
            raise CommonPerson(person)
    fault = doors_fault(one, other, doors)
    if fault is not None:
        raise BadDoors(fault)


def doors_fault(one, other, doors):
    """Returns the index of the first thing that is no pair of gates, or has one that stood before, None for none."""
    if not is_list(doors):
        return 0
    free = [one.gates(), other.gates()]
    for index, door in enumerate(doors):
        if not is_pair(door) or door[0] not in free[0] or door[1] not in free[1]:
            return index
        free[0].remove(door[0])
        free[1].remove(door[1])
    return None


def handed(one, other, doors, given):
    """Returns the pair of what is given to both pieces at last, as who is seen at a gate is given at the other one."""
    check_given(joined_pieces(one, other, doors), given)
    # Gates of both are unlike, as their rooms are: so one dict can keep what is given to both.
    told = {gate: sorted(given[gate]) for gate in given}
    across = {near: far for door in doors for near, far in [(door[0], door[1]), (door[1], door[0])]}
    pieces = [(one.gates(), Within(one)), (other.gates(), Within(other))]
    ahead = None
    while told != ahead:
        ahead = told
        seen = {}
        for gates, within in pieces:
            part = given_at(gates, ahead)
            seen.update(within.seen_by(within.lots(part), part))
        told = handed_on(ahead, seen, across)
    return given_at(one.gates(), told), given_at(other.gates(), told)


def given_at(gates, given):
    """Returns what is given at some gates, these ascending."""
    return {gate: list(given[gate]) for gate in gates if gate in given}


def handed_on(given, seen, across):
    """Returns what is given behind a round, by who was seen at all gates ahead of it."""
    more = {gate: given[gate] + seen[gate] for gate in given}
    for gate, far in across.items():
        if seen[gate] and seen[gate] != given.get(gate):
            more[far] = more.get(far, []) + seen[gate]
    return made_one(more)


def made_one(given):
    """Returns what is given when lists with a person in common become one."""
    lists = []
    for people in given.values():
        apart = [other for other in lists if not any([person in people for person in other])]
        common = [person for other in lists if other not in apart for person in other]
        lists = apart + [sorted(set(people + common))]
    return {gate: [people for people in lists if given[gate][0] in people][0] for gate in given}
