"""Orders in which some rooms are to be among the first so many, in houses without rings of doors."""

from lastfaces.errors import BadDues
from lastfaces.lotorders import lots_to_order
from lastfaces.orders import left_rooms
from lastfaces.roombits import bits_in, many_bits
from lastfaces.wants import check_no_ring


def is_due(thing):
    """Tells of any object whether it is a number from 1 on."""
    return isinstance(thing, int) and not isinstance(thing, bool) and thing >= 1


def check_dues(house, placing, faces, dues):
    """Raises BadPlacing, BadMap, NoWalks, HasRing or BadDues for the first thing that is wrong."""
    rooms = left_rooms(house, placing, faces)
    check_no_ring(house)
    if not isinstance(dues, dict) or not all([room in rooms and is_due(dues[room]) for room in dues]):
        raise BadDues(dues)


def latest_dues(house, placing, faces, dues):
    """Returns the dict from all left rooms to their latest dues."""
    bits, lots = lots_to_order(house, placing, faces)
    behind = {bit: lot.behind(bit) for lot in lots for bit in bits_in(lot.left())}
    latest = {}
    # What a room is always ahead of is always ahead of fewer.
    for bit in sorted(behind, key=lambda one: many_bits(behind[one])):
        room = bits.rooms_in(bit)[0]
        told = [latest[other] - 1 for other in bits.rooms_in(behind[bit])]
        latest[room] = min([dues.get(room, len(behind)), len(behind), *told])
    return {room: latest[room] for room in sorted(latest)}


def order_by(house, placing, faces, dues):
    """Returns an order in which each room stands among the first so many as are due, None if there is none."""
    if due_paper(house, placing, faces, dues) is not None:
        return None
    latest = latest_dues(house, placing, faces, dues)
    # What is always ahead of a room has an earlier latest due.
    return sorted(latest, key=lambda room: (latest[room], room))


def due_paper(house, placing, faces, dues):
    """Returns None if there is such an order, else a number and the rooms due by it, which are more than it."""
    check_dues(house, placing, faces, dues)
    latest = latest_dues(house, placing, faces, dues)
    for number in range(len(latest)):
        rooms = [room for room in latest if latest[room] <= number]
        if len(rooms) > number:
            return number, rooms
    return None
