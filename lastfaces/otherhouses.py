"""Houses that are made of other ones."""

from lastfaces.errors import BadDoors, BadName, BadNames, BadSome, CommonRoom, NoDoor
from lastfaces.houses import House, beside, check_room, check_some, is_room
from lastfaces.things import has_just, is_name, is_pair, names_fault, unlike_fault


def part_of(house, some):
    """Returns the house of a list of one or more rooms and all doors between them."""
    check_some(house, some)
    if len(some) == 0:
        raise BadSome(0)
    return House(some, [(one, other) for one, other in house.doors() if one in some and other in some])


def built_on(house, name, some):
    """Returns the house with one room more, which has doors to a list of rooms."""
    if not is_name(name) or is_room(house, name):
        raise BadName(name)
    check_some(house, some)
    return House(house.rooms() + [name], house.doors() + [(room, name) for room in some])


def joined_by(one, other, doors):
    """Returns the house of two without a common room, and of doors (room of one, room of other)."""
    for room in one.rooms():
        if is_room(other, room):
            raise CommonRoom(room)
    fault = unlike_fault(doors, lambda thing: joining_key(one, other, thing))
    if fault is not None:
        raise BadDoors(fault)
    return House(one.rooms() + other.rooms(), one.doors() + other.doors() + list(doors))


def joining_key(one, other, thing):
    """Returns the pair of what is a pair of a room of one house and a room of another, None of any other thing."""
    if not is_pair(thing) or not is_room(one, thing[0]) or not is_room(other, thing[1]):
        return None
    return tuple(thing)


def renamed(house, names):
    """Returns the house with other names, told by a dict from just all rooms."""
    if not has_just(names, house.rooms()) or names_fault(list(names.values())) is not None:
        raise BadNames(names)
    doors = [(names[one], names[other]) for one, other in house.doors()]
    return House([names[room] for room in house.rooms()], doors)


def without_door(house, one, other):
    """Returns the house without the door between two rooms."""
    check_room(house, one)
    check_room(house, other)
    if other not in beside(house, one):
        raise NoDoor(one, other)
    door = tuple(sorted([one, other]))
    return House(house.rooms(), [kept for kept in house.doors() if kept != door])
