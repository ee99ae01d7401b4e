"""Plain reckonings of pieces with gates, what is given to them, and what is around, to hold the program against.

Here a piece is (rooms, doors, gates, placing, faces), so that nothing depends on how the program keeps it.
"""

import itertools
import random

import plain
from lastfaces.houses import House
from lastfaces.pieces import Piece


def plain_within(rooms, doors, gates, placing, faces, given):
    """The last lots, as pairs (people, rooms) of sets, a room around told as the pair ("around", gate).

    Again and again, as long as can be, two lots are made one, or one takes a room.
    """
    lots = [({person}, {room}) for person, room in placing.items()]
    lots += [(set(given[gate]), {("around", gate)}) for gate in given]
    every = list(doors) + [(gate, ("around", gate)) for gate in given]
    while True:
        done = None
        for one, other in itertools.combinations(lots, 2):
            if one[0] & other[0] or any(room in other[1] for near in one[1] for room in plain.near(every, near)):
                done = [lot for lot in lots if lot not in (one, other)] + [(one[0] | other[0], one[1] | other[1])]
        taken = {room for lot in lots for room in lot[1]}
        for lot in lots:
            around = {room for near in lot[1] for room in plain.near(every, near)} - taken
            open_rooms = [room for room in around if faces.get(room) in lot[0]]
            if open_rooms and done is None:
                done = [other for other in lots if other is not lot] + [(lot[0], lot[1] | {min(open_rooms)})]
        if done is None:
            return lots
        lots = done


def plain_seen(gates, lots, given):
    told = {}
    for gate in sorted(gates):
        asked = ("around", gate) if gate in given else gate
        told[gate] = sorted(person for people, rooms in lots if asked in rooms for person in people)
    return told


def shares(names):
    """All lists of lists that share out some of the names, none empty."""
    if not names:
        return [[]]
    told = []
    for some in shares(names[1:]):
        told.append(some)
        told.append([[names[0]]] + some)
        told += [some[:at] + [[names[0]] + some[at]] + some[at + 1:] for at in range(len(some))]
    return told


def all_given(gates, names):
    """All that can be given that names some of these."""
    told = []
    for lists in shares(names):
        for chosen in itertools.product([None, *range(len(lists))], repeat=len(gates)):
            if {pick for pick in chosen if pick is not None} == set(range(len(lists))):
                told.append({gate: lists[pick] for gate, pick in zip(gates, chosen) if pick is not None})
    return told


def drawn_pieces(many, seed):
    """Drawn pieces of few rooms, as (rooms, doors, gates, placing, faces)."""
    chance = random.Random(seed)
    for _ in range(many):
        size = chance.randint(1, 5)
        rooms = plain.NAMES[:size]
        pairs = list(itertools.combinations(rooms, 2))
        doors = chance.sample(pairs, chance.randint(0, min(len(pairs), size + 1)))
        placing = dict(zip(["q", "p"], chance.sample(rooms, min(size, chance.randint(0, 2)))))
        faces = {room: chance.choice([None, "x", "x", "y", "p", "q", "x"]) for room in rooms}
        faces.update({room: person for person, room in placing.items()})
        yield rooms, doors, chance.sample(rooms, min(size, chance.choice([0, 1, 1, 2, 2, 3]))), placing, faces


def made(case):
    """The piece of a case."""
    rooms, doors, gates, placing, faces = case
    return Piece(House(rooms, doors), gates, placing, faces)


def plain_told(case, given):
    """The pair of what is seen at all gates, and whether all rooms that show somebody are taken in."""
    rooms, doors, gates, placing, faces = case
    lots = plain_within(rooms, doors, gates, placing, faces, given)
    whole = all(any(room in some for _, some in lots) for room in rooms if faces[room])
    return plain_seen(gates, lots, given), whole


def is_never(case, names):
    """Whether a piece is whole with nothing that names some of these, of which one is shown nowhere."""
    return not any(plain_told(case, given)[1] for given in all_given(case[2], names))


def set_in_plain(case, around):
    """The house, as a pair, the placing and the map of a piece and what is around."""
    rooms, doors, _, placing, faces = case
    (more_rooms, more_doors), more_placing, more_faces, links = around
    return (rooms + more_rooms, doors + more_doors + links), {**placing, **more_placing}, {**faces, **more_faces}


def goes_set_in(case, around):
    (_, doors), placing, faces = set_in_plain(case, around)
    return plain.plain_goes(doors, placing, faces)


def all_around(gates, many, people, faces):
    """All that could be around with so many rooms, some of these people, and these faces."""
    rooms = [f"z{k}" for k in range(many)]
    pairs = list(itertools.combinations(rooms, 2))
    for picks in itertools.product([False, True], repeat=len(pairs)):
        doors = [pair for pair, pick in zip(pairs, picks) if pick]
        for count in range(min(len(people), many) + 1):
            for some in itertools.combinations(people, count):
                for placing in plain.placings(rooms, some):
                    for shown in plain.maps(rooms, faces):
                        if all(shown[placing[person]] == person for person in placing):
                            for chosen in itertools.product(rooms, repeat=len(gates)):
                                yield (rooms, doors), placing, shown, list(zip(gates, chosen))
