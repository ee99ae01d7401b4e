"""Maps of which one face is changed, and people who are added or moved."""

from lastfaces.errors import BadPerson, TakenRoom
from lastfaces.fillings import Fillings
from lastfaces.houses import check_room
from lastfaces.maps import check_placed_map
from lastfaces.therule import goes_with, is_placed
from lastfaces.things import is_name


def changes_told(house, placing, faces):
    """Returns the list of the pairs (change, whether the map goes behind it), None ahead of people for each room."""
    check_placed_map(house, placing, faces)
    fillings = Fillings(house, placing, {room: [faces[room]] for room in house.rooms()})
    as_it_is = fillings.all_open()
    told = []
    for room in house.rooms():
        for face in [None, *sorted(placing)]:
            if face != faces[room]:
                told.append(((room, face), fillings.fits(fillings.fixed(as_it_is, room, face))))
    return told


def good_changes(house, placing, faces):
    """Returns the list of the changes behind which a map goes with a placing."""
    return [change for change, goes in changes_told(house, placing, faces) if goes]


def harming_changes(house, placing, faces):
    """Returns the list of the changes behind which a map does not go with a placing."""
    return [change for change, goes in changes_told(house, placing, faces) if not goes]


def with_person(house, placing, faces, person, room):
    """Returns the pair of a placing and a map with one person more, who stands in a room and is shown there."""
    check_placed_map(house, placing, faces)
    if not is_name(person) or person in placing:
        raise BadPerson(person)
    check_room(house, room)
    if room in list(placing.values()):
        raise TakenRoom(room)
    more = {**placing, person: room}
    return {name: more[name] for name in sorted(more)}, {**{seen: faces[seen] for seen in house.rooms()}, room: person}


def moved_to(house, placing, faces, person):
    """Returns the ascending list of the rooms in which a person can stand, all others as told, so that the map goes."""
    check_placed_map(house, placing, faces)
    if not is_placed(placing, person):
        raise BadPerson(person)
    others = [placing[other] for other in placing if other != person]
    rooms = [room for room in house.rooms() if faces[room] == person and room not in others]
    return [room for room in rooms if goes_with(house, {**placing, person: room}, faces)]
