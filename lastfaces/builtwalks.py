"""Walks that are built for a map, and walks that are judged by one."""

from lastfaces.lotsbyrows import Lots, take_rounds
from lastfaces.maps import check_placed_map
from lastfaces.therule import goes_with
from lastfaces.walks import last_faces, stands, turned
from lastfaces.ways import way_through


def walk_for(house, placing, faces):
    """Returns a walk (start, steps) that ends as a placing and a map tell, None if there is none."""
    if not goes_with(house, placing, faces):
        return None
    # Turned about in time, people begin where they stand at last, and first faces are last ones.
    return turned(house, placing, steps_by_rounds(house, placing, faces))


def steps_by_rounds(house, placing, faces):
    """Returns steps from a placing by which all rooms that can be taken are seen first as a map tells."""
    row = [room for taken in take_rounds(Lots(house, placing, faces)) for room in taken]
    return steps_by_row(house, placing, faces, row)


def steps_by_row(house, placing, faces, row):
    """Returns steps from a placing by which rooms are seen first as a row takes them in.

    Within its lot a person goes through rooms that were seen before, so it changes no first face.
    """
    lots = Lots(house, placing, faces)
    where = dict(placing)
    steps = []
    for room in row:
        person = faces[room]
        way = way_through(house, lots.lot_rooms(person) + [room], where[person], room)
        steps.extend([(person, further) for further in way[1:]])
        where[person] = room
        lots.take(room)
    return steps


def walk_fault(house, placing, faces, start, steps):
    """Returns None if a walk has these stands and last faces, else what it has otherwise first."""
    check_placed_map(house, placing, faces)
    at_last = stands(house, start, steps)
    for person in sorted(set(placing) | set(start)):
        if placing.get(person) != at_last.get(person):
            return "stands", person
    last = last_faces(house, start, steps)
    for room in house.rooms():
        if last[room] != faces[room]:
            return "face", room
    return None
