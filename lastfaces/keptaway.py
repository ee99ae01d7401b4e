"""Walks in which people are kept away from rooms, and rooms to which they surely came."""

from lastfaces.errors import BadKept, BadPerson
from lastfaces.houses import beside, check_room, is_room, some_fault
from lastfaces.maps import check_placed_map
from lastfaces.therule import check_goes, is_placed
from lastfaces.things import is_list, is_name
from lastfaces.walks import turned
from lastfaces.ways import way_through


class Goers:
    """Where people can come to through rooms taken in, out of the rooms that are not kept from them."""

    def __init__(self, house, placing, faces, kept):
        self._house = house
        self._faces = faces
        self._kept = kept
        self._names = sorted(placing)
        self._taken = {}
        self._came = {}
        for person in self._names:
            own = placing[person]
            self._came[person] = {own: True} if self._is_free(person, own) else {}
        for person in self._names:
            self.take(placing[person])

    def _is_free(self, person, room):
        return room not in self._kept.get(person, [])

    def _comes_beside(self, person, room):
        return any([near in self._came[person] for near in beside(self._house, room)])

    def take(self, room):
        """Has a room taken in."""
        self._taken[room] = True
        for person in self._names:
            if self._is_free(person, room) and self._comes_beside(person, room):
                self._go_on(person, room)

    def _go_on(self, person, room):
        came = self._came[person]
        came[room] = True
        edge = [room]
        while edge:
            last = edge.pop()
            for near in beside(self._house, last):
                if near in self._taken and near not in came and self._is_free(person, near):
                    came[near] = True
                    edge.append(near)

    def taken(self):
        """Returns the ascending list of the rooms taken in."""
        return sorted(self._taken)

    def rooms_for(self, person):
        """Returns the list of the rooms to which a person can come."""
        return list(self._came[person])

    def can_be_taken(self, room):
        """Tells whether a room can be taken in."""
        person = self._faces[room]
        if room in self._taken or person not in self._came or not self._is_free(person, room):
            return False
        return self._comes_beside(person, room)

    def open_rooms(self):
        """Returns the ascending list of the rooms that can be taken in."""
        return [room for room in self._house.rooms() if self.can_be_taken(room)]


def is_kept(house, thing):
    """Tells of any object whether it is a dict from names to lists of unlike rooms."""
    if not isinstance(thing, dict):
        return False
    return all([is_name(person) and some_fault(house, rooms) is None for person, rooms in thing.items()])


def check_kept(house, placing, faces, kept):
    """Raises BadPlacing, BadMap or BadKept for the first thing that is none."""
    check_placed_map(house, placing, faces)
    if not is_kept(house, kept):
        raise BadKept(kept)


def is_amiss(placing, faces, kept, person):
    """Tells whether a placed person's room does not show it, or is kept from it."""
    return faces[placing[person]] != person or placing[person] in kept.get(person, [])


def kept_walk(house, placing, faces, kept):
    """Returns a walk that ends so, in which nobody comes to a room that is kept from it, None if there is none."""
    if kept_paper(house, placing, faces, kept) is not None:
        return None
    goers = Goers(house, placing, faces, kept)
    where = dict(placing)
    steps = []
    rooms = goers.open_rooms()
    while rooms:
        for room in rooms:
            person = faces[room]
            way = way_through(house, goers.rooms_for(person) + [room], where[person], room)
            steps.extend([(person, further) for further in way[1:]])
            where[person] = room
            goers.take(room)
        rooms = goers.open_rooms()
    # Turned about in time, people begin where they stand at last, and first faces are last ones.
    return turned(house, placing, steps)


def kept_paper(house, placing, faces, kept):
    """Returns None if there is such a walk, else a paper that shows why there is none."""
    check_kept(house, placing, faces, kept)
    for person in sorted(placing):
        if is_amiss(placing, faces, kept, person):
            return "room", person
    goers = Goers(house, placing, faces, kept)
    rooms = goers.open_rooms()
    while rooms:
        for room in rooms:
            goers.take(room)
        rooms = goers.open_rooms()
    some = goers.taken()
    for room in house.rooms():
        if faces[room] is not None and room not in some:
            return "rooms", some, room
    return None


def is_kept_paper(house, placing, faces, kept, thing):
    """Tells of any object whether it is a paper that shows that there is no such walk."""
    check_kept(house, placing, faces, kept)
    if not is_list(thing) or not 2 <= len(thing) <= 3:
        return False
    if len(thing) == 2:
        return thing[0] == "room" and is_placed(placing, thing[1]) and is_amiss(placing, faces, kept, thing[1])
    return thing[0] == "rooms" and is_rooms_paper(house, placing, faces, kept, thing[1], thing[2])


def is_rooms_paper(house, placing, faces, kept, some, room):
    """Tells of any two objects whether they are rooms to which nothing can be taken in, and another seen room."""
    if some_fault(house, some) is not None or not is_room(house, room):
        return False
    if room in some or faces[room] is None or not all([own in some for own in placing.values()]):
        return False
    goers = Goers(house, placing, faces, kept)
    for told in some:
        goers.take(told)
    return goers.open_rooms() == []


def surely_came(house, placing, faces, person):
    """Returns the ascending list of the rooms to which a person comes, or where it begins, in all walks."""
    check_goes(house, placing, faces)
    if not is_placed(placing, person):
        raise BadPerson(person)
    rooms = house.rooms()
    return [room for room in rooms if kept_paper(house, placing, faces, {person: [room]}) is not None]


def sure_people(house, placing, faces, room):
    """Returns the ascending list of the people who come to a room, or begin there, in all walks."""
    check_goes(house, placing, faces)
    check_room(house, room)
    people = sorted(placing)
    return [person for person in people if kept_paper(house, placing, faces, {person: [room]}) is not None]
