"""How many walks of just so many steps there are."""

from lastfaces.errors import BadMany, BadStart, OtherPeople
from lastfaces.houses import beside, check_room
from lastfaces.maps import check_map, check_placing, seen_rooms
from lastfaces.roombits import RoomBits, many_bits
from lastfaces.things import is_number
from lastfaces.walks import is_start
from lastfaces.walktables import counts_from, counts_together, open_rooms, walk_table


def check_many(thing):
    """Raises BadMany for what is no number."""
    if not is_number(thing):
        raise BadMany(thing)


def check_start_and_many(house, start, many):
    """Raises BadStart for what is no start, then BadMany for what is no number."""
    if not is_start(house, start):
        raise BadStart(start)
    check_many(many)


def check_ends(house, start, many, placing):
    """Raises BadStart, BadMany, BadPlacing or OtherPeople for the first thing that is wrong."""
    check_start_and_many(house, start, many)
    check_placing(house, placing)
    for person in sorted(set(list(start) + list(placing))):
        if person not in start or person not in placing:
            raise OtherPeople(person)


def count_walks(house, start, many):
    """Returns how many lists of just many steps are walks from a start."""
    check_start_and_many(house, start, many)
    table = walk_table(house, open_rooms(house, []), many)
    return counts_together([counts_from(table, room) for room in start.values()], many)[many]


def walks_to_table(house, room, many):
    """Returns the table of how many walks lead from each room to a room."""
    return walk_table(house, {other: 1 if other == room else 0 for other in house.rooms()}, many)


def count_walks_to(house, start, many, placing):
    """Returns how many walks of just many steps from a start end as a placing tells."""
    check_ends(house, start, many, placing)
    counts = [counts_from(walks_to_table(house, placing[person], many), start[person]) for person in start]
    return counts_together(counts, many)[many]


def count_walks_with(house, start, many, placing, faces):
    """Returns how many of these have faces for last faces: turned about, these are first faces."""
    check_ends(house, start, many, placing)
    check_map(house, faces)
    return first_count(house, placing, many, start, faces)


def count_first_with(house, start, many, placing, faces):
    """Returns how many of these have faces for first faces: none if two begin in one room."""
    check_ends(house, start, many, placing)
    check_map(house, faces)
    if len(set(list(start.values()))) < len(start):
        return 0
    return first_count(house, start, many, placing, faces)


def first_count(house, begins, many, ends, faces):
    """Returns how many walks of many steps, from where all begin in unlike rooms, have first faces and end so."""
    if any([faces[begins[person]] != person for person in begins]):
        return 0
    bits = RoomBits(house)
    people = sorted(begins)
    where = tuple([begins[person] for person in people])
    # By where all are, and by the rooms in which somebody was: how many walks there are.
    counts = {(where, bits.bits_of(list(where))): 1}
    for _ in range(many):
        counts = first_counts_behind(house, bits, people, faces, counts)
    return counts.get((tuple([ends[person] for person in people]), bits.bits_of(seen_rooms(house, faces))), 0)


def first_counts_behind(house, bits, people, faces, counts):
    """Returns how many walks there are behind one step more, by where all are and by where somebody was."""
    behind = {}
    for (where, seen), many in counts.items():
        for index, person in enumerate(people):
            for room in beside(house, where[index]):
                bit = bits.bit(room)
                if seen & bit or faces[room] == person:
                    key = (where[:index] + (room,) + where[index + 1:], seen | bit)
                    behind[key] = behind.get(key, 0) + many
    return behind


def cover_counts(house, room, many):
    """Returns the dict from numbers of rooms to how many walks of one person from a room come through so many."""
    check_room(house, room)
    check_many(many)
    bits = RoomBits(house)
    counts = {(room, bits.bit(room)): 1}
    for _ in range(many):
        behind = {}
        for (last, seen), walks in counts.items():
            for near in beside(house, last):
                key = (near, seen | bits.bit(near))
                behind[key] = behind.get(key, 0) + walks
        counts = behind
    told = [0] * (len(house) + 1)
    for (_, seen), walks in counts.items():
        told[many_bits(seen)] += walks
    return {seen: walks for seen, walks in enumerate(told) if walks > 0}
