"""Rows of maps that all go with a placing, each with one face changed, and the nearest maps that go."""

from lastfaces.goingmaps import GoingMaps, all_guesses
from lastfaces.lotsbyrows import Lots, take_rounds, take_row
from lastfaces.maps import check_map, check_placed_map, check_placing, is_map
from lastfaces.therule import check_goes, goes_with
from lastfaces.things import is_list


def row_between(house, placing, one, other):
    """Returns a shortest row of maps that begins with one and ends with other."""
    check_placing(house, placing)
    check_map(house, one)
    check_map(house, other)
    check_goes(house, placing, one)
    check_goes(house, placing, other)
    now = {room: one[room] for room in house.rooms()}
    row = [dict(now)]
    taken = [room for rooms in take_rounds(Lots(house, placing, other)) for room in rooms]
    # What is ahead of the first unlike room is alike by now, so that it can be taken in as other takes it in.
    for room in taken:
        if now[room] != other[room]:
            now[room] = other[room]
            row.append(dict(now))
    lots = Lots(house, placing, now)
    take_row(lots, taken)
    # The rooms left are those at which other shows nobody; none of them is wanted by one that is taken in ahead.
    for room in reversed([room for rooms in take_rounds(lots) for room in rooms]):
        now[room] = None
        row.append(dict(now))
    return row


def is_row(house, placing, thing):
    """Tells of any object whether it is a row: maps that go with a placing, each with one face changed."""
    check_placing(house, placing)
    if not is_list(thing) or len(thing) == 0 or not all([is_map(house, faces) for faces in thing]):
        return False
    if any([unlike_rooms(one, other) != 1 for one, other in zip(thing[:-1], thing[1:])]):
        return False
    return all([goes_with(house, placing, faces) for faces in thing])


def unlike_rooms(one, other):
    """Returns at how many rooms two maps are unlike."""
    return len([room for room in one if one[room] != other[room]])


def fewest_changed(house, placing, faces):
    """Returns the least number of rooms at which a map that goes with a placing is unlike a map."""
    return unlike_rooms(nearest_maps(house, placing, faces)[0], faces)


def nearest_maps(house, placing, faces):
    """Returns the list of all maps that go with a placing and are unlike a map at as few rooms as can be."""
    check_placed_map(house, placing, faces)
    maps = GoingMaps(house, placing, all_guesses(house, placing))
    told = []
    many = 0
    # There is one: the map that shows nobody but those who stand somewhere goes.
    while not told:
        told = maps.unlike_at(faces, many)
        many += 1
    return told
