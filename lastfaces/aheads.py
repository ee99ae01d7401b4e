"""Which left rooms stand ahead of others in all orders, and at which places they stand."""

from lastfaces.lotorders import lot_with, lots_to_order
from lastfaces.orders import check_left
from lastfaces.roombits import bits_in, many_bits


def always_ahead(house, placing, faces, room, other):
    """Tells whether a left room stands ahead of another one in all orders."""
    check_left(house, placing, faces, room)
    check_left(house, placing, faces, other)
    bits, lots = lots_to_order(house, placing, faces)
    return lot_with(lots, bits.bit(room)).behind(bits.bit(room)) & bits.bit(other) > 0


def ahead_pairs(house, placing, faces):
    """Returns the ascending list of the pairs of left rooms of which one stands ahead of the other in all orders."""
    bits, lots = lots_to_order(house, placing, faces)
    pairs = []
    for lot in lots:
        for room in bits.rooms_in(lot.left()):
            pairs.extend([(room, other) for other in bits.rooms_in(lot.behind(bits.bit(room)))])
    return sorted(pairs)


def leading_rooms(house, placing, faces):
    """Returns the ascending list of the left rooms that some order has first."""
    bits, lots = lots_to_order(house, placing, faces)
    return bits.rooms_in(sum([lot.open_behind(0) for lot in lots]))


def ending_rooms(house, placing, faces):
    """Returns the ascending list of the left rooms that some order has last."""
    bits, lots = lots_to_order(house, placing, faces)
    return bits.rooms_in(sum([bit for lot in lots for bit in bits_in(lot.left()) if lot.behind(bit) == 0]))


def places_of(house, placing, faces, room):
    """Returns the pair of the least and the greatest index of a left room in orders."""
    check_left(house, placing, faces, room)
    bits, lots = lots_to_order(house, placing, faces)
    bit = bits.bit(room)
    own = lot_with(lots, bit)
    left = sum([many_bits(lot.left()) for lot in lots])
    return own.least_index(bit), left - 1 - many_bits(own.behind(bit))
