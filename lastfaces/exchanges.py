"""Orders made of others by exchanges of neighbours."""

from lastfaces.orders import check_order


def check_both(house, placing, faces, one, other):
    """Raises BadPlacing, BadMap, NoWalks or BadOrder for the first thing that is wrong."""
    check_order(house, placing, faces, one)
    check_order(house, placing, faces, other)


def apart(house, placing, faces, one, other):
    """Returns how many pairs of rooms two orders have otherwise."""
    check_both(house, placing, faces, one, other)
    indexes = {room: index for index, room in enumerate(other)}
    many = 0
    for at, room in enumerate(one):
        many += len([behind for behind in one[at + 1:] if indexes[behind] < indexes[room]])
    return many


def order_row(house, placing, faces, one, other):
    """Returns a list of orders from one to other, each with two neighbours of the one ahead exchanged, the shortest.

    Other takes its next room here, too: so this can be taken at once, and what it is moved ahead of then as well.
    """
    check_both(house, placing, faces, one, other)
    now = list(one)
    row = [list(now)]
    for target, room in enumerate(other):
        for at in reversed(range(target, now.index(room))):
            now[at], now[at + 1] = now[at + 1], now[at]
            row.append(list(now))
    return row
