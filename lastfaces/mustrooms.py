"""Rooms in which somebody must have been, or could, who came to whom, and people who are needed."""

from lastfaces.errors import NotPlaced, NotSeen
from lastfaces.houses import check_room
from lastfaces.maps import check_placed_map, rooms_of
from lastfaces.shylots import ShyLots
from lastfaces.therule import check_goes, is_placed, last_lots


def check_placed(placing, thing):
    """Raises NotPlaced for what is no person of a placing."""
    if not is_placed(placing, thing):
        raise NotPlaced(thing)


def check_person_asked(house, placing, faces, person):
    """Raises BadPlacing, BadMap, NotPlaced or NoWalks for the first thing that is wrong."""
    check_placed_map(house, placing, faces)
    check_placed(placing, person)
    check_goes(house, placing, faces)


def can_keep(lots, shy):
    """Tells whether there is a walk that keeps shy, of people whose rooms show them."""
    return lots.is_all(lots.taken(shy))


def must_rooms(house, placing, faces, person):
    """Returns the ascending list of the rooms in which a person was in all walks that end so."""
    check_person_asked(house, placing, faces, person)
    lots = ShyLots(house, placing, faces)
    own = placing[person]
    return [room for room in house.rooms() if room == own or not can_keep(lots, {person: [room]})]


def could_rooms(house, placing, faces, person):
    """Returns the ascending list of the rooms in which a person was in some walk that ends so: its lot at last."""
    check_person_asked(house, placing, faces, person)
    return [room for people, rooms in last_lots(house, placing, faces) if person in people for room in rooms]


def came_to(house, placing, faces):
    """Returns the ascending list of the pairs (one, other) such that one was in a room that shows other, in all walks.

    So it is if no walk keeps one away from all rooms that show other.
    """
    check_goes(house, placing, faces)
    lots = ShyLots(house, placing, faces)
    people = sorted(placing)
    shows = {person: rooms_of(house, faces, person) for person in people}
    return [(one, other) for one in people for other in people
            if one != other and not can_keep(lots, {one: shows[other]})]


def needed_people(house, placing, faces, room):
    """Returns the ascending list of the people without whom a room is not taken in."""
    check_placed_map(house, placing, faces)
    check_room(house, room)
    if faces[room] is None:
        raise NotSeen(room)
    check_goes(house, placing, faces)
    return [person for person in sorted(placing) if not is_taken_without(house, placing, faces, room, person)]


def is_taken_without(house, placing, faces, room, person):
    """Tells whether a room is taken in if all rooms that show a person are left out."""
    others = {other: placing[other] for other in placing if other != person}
    left = {seen: None if faces[seen] == person else faces[seen] for seen in house.rooms()}
    return any([room in rooms for _, rooms in last_lots(house, others, left)])
