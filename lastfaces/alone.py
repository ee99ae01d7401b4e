"""How few steps one person has who sees all rooms of a house without rings, and how many such walks there are."""

from math import factorial

from lastfaces.errors import NoTree
from lastfaces.houses import beside, check_room
from lastfaces.wants import ring_of_doors
from lastfaces.ways import reached, steps_between, way


def check_tree(house):
    """Raises NoTree for a house with a ring of doors, or one that does not hang together."""
    if ring_of_doors(house) is not None or len(reached(house, house.rooms(), house.rooms()[0])) < len(house):
        raise NoTree()


def check_tree_rooms(house, first, last):
    """Raises NoTree, or NoRoom for the first of two things that is no room."""
    check_tree(house)
    check_room(house, first)
    check_room(house, last)


def farthest_rooms(house, room):
    """Returns the ascending list of the rooms that are the most doors away from a room."""
    doors = {other: steps_between(house, room, other) for other in house.rooms()}
    most = max(doors.values())
    return [other for other in doors if doors[other] == most]


def steps_alone(house, last):
    """Returns how few steps walks through all rooms have that end in a room."""
    check_tree_rooms(house, last, last)
    return steps_through(house, farthest_rooms(house, last)[0], last)


def steps_through(house, first, last):
    """Returns how few steps walks through all rooms have that begin in one room and end in another."""
    check_tree_rooms(house, first, last)
    return 2 * (len(house) - 1) - steps_between(house, first, last)


def count_through(house, first, last):
    """Returns how many walks through all rooms from one room to another have the fewest steps."""
    check_tree_rooms(house, first, last)
    leading = way(house, first, last)[:-1]
    many = 1
    for room in house.rooms():
        branches = len(beside(house, room)) - (0 if room == first else 1)
        # On the way, the branch that leads on to the last room is the last one, whatever is chosen.
        many *= factorial(branches - 1 if room in leading else branches)
    return many


def count_alone(house, last):
    """Returns how many walks through all rooms that end in a room have the fewest steps of these."""
    check_tree_rooms(house, last, last)
    return sum([count_through(house, first, last) for first in farthest_rooms(house, last)])
