"""Which rooms hang together, and the ways between them."""

from lastfaces.houses import beside, check_room, check_some


def reached_by(onward, some, one):
    """Returns a dict of the rooms to which one comes from one through rooms of some alone, nearest first.

    onward tells of a room the list of those next to it. The dict tells of each room the one ahead of it on a
    shortest way, None of one itself.
    """
    ahead = {one: None}
    edge = [one]
    while edge:
        further = []
        for room in edge:
            for near in onward(room):
                if near in some and near not in ahead:
                    ahead[near] = room
                    further.append(near)
        edge = further
    return ahead


def way_by(onward, some, one, other):
    """Returns the rooms of such a shortest way from one to other, None if there is none."""
    ahead = reached_by(onward, some, one)
    if other not in ahead:
        return None
    back = [other]
    while back[-1] != one:
        back.append(ahead[back[-1]])
    return list(reversed(back))


def reached(house, some, one):
    """Returns a dict of the rooms to which doors lead from one through rooms of some alone, nearest first.

    It tells of each the room ahead of it on a shortest way, None of one itself.
    """
    return reached_by(lambda room: beside(house, room), some, one)


def way_through(house, some, one, other):
    """Returns the rooms of a shortest way from one to other through rooms of some alone, None if there is none."""
    return way_by(lambda room: beside(house, room), some, one, other)


def parts(house, some):
    """Returns the ascending list of the greatest lists of some rooms that hang together."""
    check_some(house, some)
    told = []
    placed = set()
    for room in sorted(some):
        if room not in placed:
            part = sorted(reached(house, some, room))
            told.append(part)
            for member in part:
                placed.add(member)
    return told


def steps_between(house, one, other):
    """Returns the least number of doors from one room to another, None if none lead there."""
    rooms = way(house, one, other)
    return None if rooms is None else len(rooms) - 1


def way(house, one, other):
    """Returns the rooms of a shortest way from one room to another, both with it, None if there is none."""
    check_room(house, one)
    check_room(house, other)
    return way_through(house, house.rooms(), one, other)


def round_about(house, some):
    """Returns the ascending list of the rooms beside some of a list, not in it."""
    check_some(house, some)
    return sorted({near for room in some for near in beside(house, room) if near not in some})
