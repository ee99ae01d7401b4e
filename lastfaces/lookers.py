"""Lookers, who look at rooms until they tell a map, and how each of them fails who looks too little."""

from lastfaces.errors import BadAnswer, BadLooker, BadNumber, IsEnough, NotFull
from lastfaces.functions import is_function
from lastfaces.houses import is_room
from lastfaces.looks import Looks, check_standing, some_left
from lastfaces.maps import is_map
from lastfaces.therule import check_goes
from lastfaces.things import is_number, is_pair


def check_looker(thing):
    """Raises BadLooker for what is no function."""
    if not is_function(thing):
        raise BadLooker(thing)


def is_look(house, thing):
    """Tells of any object whether it is the answer to look at a room."""
    return is_pair(thing) and thing[0] == "look" and is_room(house, thing[1])


def is_tale(house, thing):
    """Tells of any object whether it is the answer that tells a map."""
    return is_pair(thing) and thing[0] == "tell" and is_map(house, thing[1])


def in_order(faces):
    """Returns a new dict of faces, ascending by its rooms."""
    return {room: faces[room] for room in sorted(faces)}


def run_looker(house, placing, faces, looker):
    """Returns the pair of the list of the rooms at which a looker looks, and of the map that it tells."""
    check_standing(house, placing)
    check_goes(house, placing, faces)
    for room in house.rooms():
        if faces[room] is None:
            raise NotFull(room)
    check_looker(looker)
    rooms = []
    seen = {}
    answer = looker(in_order(seen))
    while is_look(house, answer):
        rooms.append(answer[1])
        seen[answer[1]] = faces[answer[1]]
        answer = looker(in_order(seen))
    if not is_tale(house, answer):
        raise BadAnswer(answer)
    return rooms, in_order(answer[1])


def beat_looker(house, placing, seen, looker, many):
    """Returns the tuple (faces, kind, map) of how a looker fails who looks less often than is always enough."""
    maps = some_left(house, placing, seen)
    check_looker(looker)
    if not is_number(many):
        raise BadNumber(many)
    looks = Looks(house.rooms(), maps)
    left = looks.every_map()
    if many >= looks.fewest(left):
        raise IsEnough()
    faces = dict(seen)
    answer = looker(in_order(faces))
    looked = 0
    while looked < many and is_look(house, answer):
        behind = looks.behind(left, answer[1])
        # Of people behind whom as many looks are wanted the least one is the first.
        faces[answer[1]] = max(list(behind), key=lambda face: looks.fewest(behind[face]))
        left = behind[faces[answer[1]]]
        looked += 1
        answer = looker(in_order(faces))
    return failed(house, answer, in_order(faces), maps_in(maps, left))


def maps_in(maps, left):
    """Returns the list of the maps of a number, of which the first one is the lowest bit."""
    return [faces for index, faces in enumerate(maps) if (left >> index) & 1]


def failed(house, answer, faces, maps):
    """Returns the tuple (faces, kind, map) of a last answer: as more than one map is left, none is right."""
    if is_look(house, answer):
        return faces, "much", maps[0]
    if not is_tale(house, answer):
        return faces, "odd", maps[0]
    return faces, "wrong", [told for told in maps if told != answer[1]][0]
