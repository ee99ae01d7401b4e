"""Walks through a house, and the first and last faces that they leave."""

from lastfaces.errors import BadStart, BadSteps, Crowded
from lastfaces.houses import beside, is_room
from lastfaces.things import is_list, is_name, is_pair


def is_start(house, thing):
    """Tells of any object whether it is a dict from people to rooms."""
    if not isinstance(thing, dict):
        return False
    return all([is_name(person) and is_room(house, room) for person, room in thing.items()])


def is_step(onward, where, thing):
    """Tells of any object whether it is a step that can be gone by people who are where a dict tells.

    onward tells of a room the list of those to which one can go from it.
    """
    if not is_pair(thing):
        return False
    person, room = thing
    return is_name(person) and person in where and room in onward(where[person])


def steps_fault(onward, start, steps):
    """Returns the index of the first step that cannot be gone: 0 for no list, None if there is none."""
    if not is_list(steps):
        return 0
    where = dict(start)
    for index, step in enumerate(steps):
        if not is_step(onward, where, step):
            return index
        person, room = step
        where[person] = room
    return None


def check_steps(house, onward, start, steps):
    """Raises BadStart for what is no start, then BadSteps for what cannot be gone from it."""
    if not is_start(house, start):
        raise BadStart(start)
    fault = steps_fault(onward, start, steps)
    if fault is not None:
        raise BadSteps(fault)


def check_walk(house, start, steps):
    """Raises BadStart for what is no start, then BadSteps for what cannot be gone from it by doors."""
    check_steps(house, lambda room: beside(house, room), start, steps)


def is_walk(house, start, steps):
    """Tells of any two objects whether they are a start and steps that can be gone one behind another."""
    return is_start(house, start) and steps_fault(lambda room: beside(house, room), start, steps) is None


def stands_behind(start, steps):
    """Returns the dict from all people to the rooms where they are behind steps that can be gone."""
    where = {person: start[person] for person in sorted(start)}
    for person, room in steps:
        where[person] = room
    return where


def stands(house, start, steps):
    """Returns the dict from all people to the rooms where they are at last."""
    check_walk(house, start, steps)
    return stands_behind(start, steps)


def check_alone(house, where):
    """Raises Crowded with the first room in which two or more people are."""
    rooms = list(where.values())
    for room in house.rooms():
        if rooms.count(room) > 1:
            raise Crowded(room)


def last_faces(house, start, steps):
    """Returns the dict from all rooms to who stands there at last, else went out of it last, else None."""
    check_walk(house, start, steps)
    return faces_behind(house, start, steps)


def faces_behind(house, start, steps):
    """Returns the last faces behind steps that can be gone."""
    at_last = stands_behind(start, steps)
    check_alone(house, at_last)
    faces = {room: None for room in house.rooms()}
    where = dict(start)
    for person, room in steps:
        faces[where[person]] = person
        where[person] = room
    for person, room in at_last.items():
        faces[room] = person
    return faces


def first_faces(house, start, steps):
    """Returns the dict from all rooms to who began there, else came in first, else None."""
    check_walk(house, start, steps)
    check_alone(house, start)
    faces = {room: None for room in house.rooms()}
    for person, room in start.items():
        faces[room] = person
    for person, room in steps:
        if faces[room] is None:
            faces[room] = person
    return faces


def turned(house, start, steps):
    """Returns the pair (start, steps) of the walk that goes all steps back, the last one first."""
    check_walk(house, start, steps)
    return turned_steps(start, steps)


def turned_steps(start, steps):
    """Returns the pair (start, steps) of steps that can be gone, all turned about."""
    where = dict(start)
    back = []
    for person, room in steps:
        back.append((person, where[person]))
        where[person] = room
    return stands_behind(start, steps), list(reversed(back))
