"""The rule by which a map goes with a placing, and papers that show that it does not."""

from lastfaces.errors import NoWalks
from lastfaces.houses import is_room
from lastfaces.lotsbyrows import Lots, take_rounds
from lastfaces.maps import check_placed_map
from lastfaces.things import is_list, is_pair


def lots_at_last(house, placing, faces):
    """Returns the lots behind a row behind which no room can be taken."""
    check_placed_map(house, placing, faces)
    lots = Lots(house, placing, faces)
    take_rounds(lots)
    return lots


def rooms_outside(house, faces, lots):
    """Returns the ascending list of the rooms that show somebody and are in no lot."""
    return [room for room in house.rooms() if faces[room] is not None and not lots.has_room(room)]


def last_lots(house, placing, faces):
    """Returns the ascending list of the last lots."""
    lots = lots_at_last(house, placing, faces)
    return lots.told()


def left_out(house, placing, faces):
    """Returns the ascending list of the rooms that show somebody and are in none of the last lots."""
    lots = lots_at_last(house, placing, faces)
    return rooms_outside(house, faces, lots)


def round_of(house, placing, faces):
    """Returns the dict from all rooms of the last lots to the numbers of the rounds in which they are taken."""
    check_placed_map(house, placing, faces)
    rounds = take_rounds(Lots(house, placing, faces))
    numbers = {room: 0 for room in placing.values()}
    for index, taken in enumerate(rounds):
        for room in taken:
            numbers[room] = index + 1
    return {room: numbers[room] for room in sorted(numbers)}


def goes_with(house, placing, faces):
    """Tells whether some walk has these stands and these last faces."""
    return why_not(house, placing, faces) is None


def why_not(house, placing, faces):
    """Returns None if a map goes with a placing, else a paper that shows why it does not."""
    lots = lots_at_last(house, placing, faces)
    for person in sorted(placing):
        if faces[placing[person]] != person:
            return "room", person
    if rooms_outside(house, faces, lots):
        return "lots", lots.told()
    return None


def check_goes(house, placing, faces):
    """Raises BadPlacing or BadMap for what is none, then NoWalks for a map that does not go with a placing."""
    why = why_not(house, placing, faces)
    if why is not None:
        raise NoWalks(why)


def is_why(house, placing, faces, thing):
    """Tells of any object whether it is a paper that shows that a map does not go with a placing."""
    check_placed_map(house, placing, faces)
    if not is_pair(thing):
        return False
    kind, told = thing
    if kind == "room":
        return is_placed(placing, told) and faces[placing[told]] != told
    return kind == "lots" and is_lots_paper(house, placing, faces, told)


def is_placed(placing, thing):
    """Tells of any object whether it is a person of a placing."""
    return isinstance(thing, str) and thing in placing


def is_lots_paper(house, placing, faces, lots):
    """Tells of any object whether it is a list of lots that cannot go on and leave out a room that shows somebody."""
    if not is_list(lots) or not all([is_lot_shaped(lot) for lot in lots]):
        return False
    lot_with = lot_numbers([lot[0] for lot in lots], lambda thing: is_placed(placing, thing))
    lot_at = lot_numbers([lot[1] for lot in lots], lambda thing: is_room(house, thing))
    if lot_with is None or lot_at is None or len(lot_with) < len(placing):
        return False
    if any([lot_at.get(placing[person]) != lot_with[person] for person in placing]):
        return False
    if any([is_way_on(faces, lot_with, lot_at, one, other) for one, other in both_ways(house)]):
        return False
    return any([faces[room] is not None and room not in lot_at for room in house.rooms()])


def is_lot_shaped(thing):
    """Tells of any object whether it is a pair of lists."""
    return is_pair(thing) and is_list(thing[0]) and is_list(thing[1])


def lot_numbers(lists, is_right):
    """Returns the dict from all things in lists to the index of theirs, None if one is wrong or stands twice."""
    numbers = {}
    for number, things in enumerate(lists):
        for thing in things:
            if not is_right(thing) or thing in numbers:
                return None
            numbers[thing] = number
    return numbers


def both_ways(house):
    """Returns the list of the pairs of rooms with a door from one to other, each door both ways."""
    doors = house.doors()
    return doors + [(other, one) for one, other in doors]


def is_way_on(faces, lot_with, lot_at, one, other):
    """Tells whether the lot of one touches another lot at other, or can take other."""
    if one not in lot_at or lot_at.get(other) == lot_at[one]:
        return False
    return other in lot_at or lot_with.get(faces[other]) == lot_at[one]
