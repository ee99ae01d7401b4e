"""Which rooms' faces follow from the others, and which rooms tell enough."""

from lastfaces.fillings import Fillings
from lastfaces.guesses import wiped
from lastfaces.houses import check_room, check_some
from lastfaces.therule import check_goes


def are_sure(house, placing, faces, some):
    """Tells whether each of some rooms, all of these being wiped, can show one face alone."""
    fillings = Fillings(house, placing, wiped(house, faces, some, list(placing)))
    for room in some:
        if len(fillings.possible(room)) > 1:
            return False
    return True


def follows(house, placing, faces, room):
    """Tells whether a room's face is the only one that it can show, it alone being wiped."""
    check_goes(house, placing, faces)
    check_room(house, room)
    return are_sure(house, placing, faces, [room])


def needless(house, placing, faces):
    """Returns the ascending list of the rooms whose faces follow from the others."""
    check_goes(house, placing, faces)
    return [room for room in house.rooms() if are_sure(house, placing, faces, [room])]


def tells_enough(house, placing, faces, some):
    """Tells whether there is one filling alone, all rooms but some being wiped."""
    check_goes(house, placing, faces)
    check_some(house, some)
    return are_sure(house, placing, faces, [room for room in house.rooms() if room not in some])


def fewest_told(house, placing, faces):
    """Returns the first of the shortest ascending lists of rooms that tell enough.

    A room that does not follow from all others has to be told. All these are enough: from a map to another one
    leads a row of maps that go, each with one face changed, at the rooms alone at which both are unlike.
    """
    spare = needless(house, placing, faces)
    return [room for room in house.rooms() if room not in spare]
