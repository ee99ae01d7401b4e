"""Full maps that are left when some faces are seen, and looks that tell which one is there."""

from lastfaces.errors import BadPlacing, BadSeen, NoneLeft
from lastfaces.goingmaps import GoingMaps, full_guesses
from lastfaces.houses import is_room
from lastfaces.maps import check_placing
from lastfaces.therule import is_placed


class Looks:
    """How many looks tell which one of some maps is there; maps are told by bits, the first one being the lowest."""

    def __init__(self, rooms, maps):
        self._every = (1 << len(maps)) - 1
        self._fewest = {}
        # By room, and by face there, ascending: the maps that have it.
        self._having = {}
        for room in rooms:
            people = sorted({faces[room] for faces in maps})
            self._having[room] = {person: maps_with(maps, room, person) for person in people}

    def every_map(self):
        """Returns the number of all maps."""
        return self._every

    def behind(self, left, room):
        """Returns the dict from the faces that a room can have to the maps that are left behind a look at it."""
        having = self._having[room]
        return {person: left & having[person] for person in having if left & having[person]}

    def fewest(self, left):
        """Returns the least number of looks by which it is always known which one of some maps is there."""
        if left & (left - 1) == 0:
            return 0
        if left not in self._fewest:
            self._fewest[left] = 1 + min([self.most_behind(left, room) for room in self.telling_rooms(left)])
        return self._fewest[left]

    def telling_rooms(self, left):
        """Returns the ascending list of the rooms that do not have the same face in all of some maps."""
        return [room for room in self._having if len(self.behind(left, room)) > 1]

    def most_behind(self, left, room):
        """Returns how many looks are always enough behind a look at a room."""
        return max([self.fewest(more) for more in self.behind(left, room).values()])


def maps_with(maps, room, person):
    """Returns the number of the maps in which a room shows a person."""
    return sum([1 << index for index, faces in enumerate(maps) if faces[room] == person])


def is_seen(house, placing, thing):
    """Tells of any object whether it is a dict from some rooms to people of a placing."""
    if not isinstance(thing, dict):
        return False
    return all([is_room(house, room) and is_placed(placing, person) for room, person in thing.items()])


def check_standing(house, placing):
    """Raises BadPlacing for what is no placing of one person or more."""
    check_placing(house, placing)
    if not placing:
        raise BadPlacing(placing)


def maps_left(house, placing, seen):
    """Returns the list of all full maps that go with a placing and have all seen faces."""
    check_standing(house, placing)
    if not is_seen(house, placing, seen):
        raise BadSeen(seen)
    guesses = full_guesses(house, placing)
    left = {room: [face for face in guesses[room] if seen.get(room, face) == face] for room in guesses}
    return GoingMaps(house, placing, left).all_maps()


def some_left(house, placing, seen):
    """Returns the maps that are left: raises NoneLeft if there are none."""
    maps = maps_left(house, placing, seen)
    if not maps:
        raise NoneLeft()
    return maps


def settled(house, placing, seen):
    """Returns the dict from the rooms that show one person in all maps left to it."""
    maps = some_left(house, placing, seen)
    first = maps[0]
    return {room: first[room] for room in first if all([faces[room] == first[room] for faces in maps])}


def fewest_looks(house, placing, seen):
    """Returns the least number of looks by which it is always known which map is there."""
    looks = Looks(house.rooms(), some_left(house, placing, seen))
    return looks.fewest(looks.every_map())


def best_look(house, placing, seen):
    """Returns the first room with a look at which so few looks are enough, None if none is wanted."""
    looks = Looks(house.rooms(), some_left(house, placing, seen))
    every = looks.every_map()
    many = looks.fewest(every)
    for room in looks.telling_rooms(every):
        if looks.most_behind(every, room) + 1 == many:
            return room
    return None
