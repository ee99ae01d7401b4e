"""Walks with first and last faces together."""

from lastfaces.builtwalks import steps_by_rounds, walk_for
from lastfaces.lastrooms import in_two, some_last
from lastfaces.maps import check_map, check_placed_map, seen_rooms
from lastfaces.therule import check_goes, goes_with
from lastfaces.walks import stands
from lastfaces.ways import parts, way_through


def seen_parts(house, faces):
    """Returns the ascending list of the parts of the rooms that show somebody."""
    return parts(house, seen_rooms(house, faces))


def part_with(pieces, room):
    """Returns the part that has a room."""
    return [piece for piece in pieces if room in piece][0]


def seen_fault(house, first, last):
    """Returns the first room that shows somebody by one map alone, None if there is none."""
    for room in house.rooms():
        if (first[room] is None) != (last[room] is None):
            return room
    return None


def both_walk(house, begins, first, ends, last):
    """Returns a walk from begins to ends with these first and last faces, None if there is none."""
    if both_fault(house, begins, first, ends, last) is not None:
        return None
    steps = steps_by_rounds(house, begins, first)
    where = stands(house, begins, steps)
    start, behind = walk_for(house, ends, last)
    seen = seen_rooms(house, first)
    # All rooms are seen now: going about in its piece nobody changes a first face.
    for person in start:
        way = way_through(house, seen, where[person], start[person])
        steps.extend([(person, room) for room in way[1:]])
    return {person: begins[person] for person in sorted(begins)}, steps + behind


def both_fault(house, begins, first, ends, last):
    """Returns None if there is a walk from begins to ends with these faces, else the first thing that bars one."""
    check_placed_map(house, begins, first)
    check_placed_map(house, ends, last)
    alone = sorted(set(begins) ^ set(ends))
    if alone:
        return "people", alone[0]
    if not goes_with(house, begins, first):
        return ("first",)
    if not goes_with(house, ends, last):
        return ("last",)
    room = seen_fault(house, first, last)
    if room is not None:
        return "room", room
    pieces = seen_parts(house, first)
    for person in sorted(begins):
        if ends[person] not in part_with(pieces, begins[person]):
            return "person", person
    return None


def begin_rooms(house, placing, faces):
    """Returns the dict from all people to the lists of the rooms where they can have begun."""
    check_goes(house, placing, faces)
    pieces = seen_parts(house, faces)
    return {person: list(part_with(pieces, placing[person])) for person in sorted(placing)}


def together_walk(house, first, last):
    """Returns a walk with these first and last faces, all apart at first and at last, None if there is none."""
    if together_fault(house, first, last) is not None:
        return None
    return both_walk(house, some_last(house, first), first, some_last(house, last), last)


def together_fault(house, first, last):
    """Returns None if there is a walk with these first and last faces, else the first thing that bars one."""
    check_map(house, first)
    check_map(house, last)
    room = seen_fault(house, first, last)
    if room is not None:
        return "room", room
    twos = [told[0] for told in [in_two(house, first), in_two(house, last)] if told is not None]
    if twos:
        return "two", min(twos)
    for piece in seen_parts(house, first):
        alone = sorted({first[room] for room in piece} ^ {last[room] for room in piece})
        if alone:
            return "piece", piece[0], alone[0]
    return None
