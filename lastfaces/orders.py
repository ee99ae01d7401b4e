"""Orders of last visits: the rows of all left rooms."""

from lastfaces.builtwalks import steps_by_row
from lastfaces.errors import BadOrder, NotLeft
from lastfaces.lotsbyrows import row_fault
from lastfaces.maps import seen_rooms
from lastfaces.therule import check_goes
from lastfaces.walks import last_faces, stands, turned


def left_rooms(house, placing, faces):
    """Returns the ascending list of the rooms that show somebody and in which nobody is placed."""
    check_goes(house, placing, faces)
    stood = list(placing.values())
    return [room for room in seen_rooms(house, faces) if room not in stood]


def check_left(house, placing, faces, room):
    """Raises NotLeft for what is no left room."""
    if room not in left_rooms(house, placing, faces):
        raise NotLeft(room)


def order_fault(house, placing, faces, thing):
    """Returns the index of the first thing that cannot be taken there, or how many rooms a row has that goes on.

    It is 0 for no list, None for an order.
    """
    many = len(left_rooms(house, placing, faces))
    fault = row_fault(house, placing, faces, thing)
    if fault is None and len(thing) < many:
        return len(thing)
    return fault


def check_order(house, placing, faces, order):
    """Raises BadOrder for what is no order."""
    fault = order_fault(house, placing, faces, order)
    if fault is not None:
        raise BadOrder(fault)


def is_order(house, placing, faces, thing):
    """Tells of any object whether it is a row of all left rooms."""
    return order_fault(house, placing, faces, thing) is None


def order_of(house, start, steps):
    """Returns the list of the left rooms behind a walk, the one first out of which somebody went last."""
    last_faces(house, start, steps)
    stood = list(stands(house, start, steps).values())
    # Turned about in time, the room out of which somebody went last is the one into which somebody comes first.
    _, back = turned(house, start, steps)
    order = []
    for _, room in back:
        if room not in order and room not in stood:
            order.append(room)
    return order


def walk_in_order(house, placing, faces, order):
    """Returns a walk (start, steps) that ends as a placing and a map tell and leaves rooms in an order."""
    check_order(house, placing, faces, order)
    return turned(house, placing, steps_by_row(house, placing, faces, order))
