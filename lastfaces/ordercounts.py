"""How many orders there are, which one has which number, and chances by them."""

from math import comb

from lastfaces.errors import BadNumber
from lastfaces.lotorders import lot_with, lots_to_order, many_shuffled
from lastfaces.lotsbyrows import Lots, take_row
from lastfaces.orders import check_left, check_order
from lastfaces.roombits import many_bits
from lastfaces.things import fraction, is_number_below


class Numbers:
    """How many orders go on from a row, which is told room by room."""

    def __init__(self, house, placing, faces):
        self._bits, self._lots = lots_to_order(house, placing, faces)
        self._states = [0 for _ in self._lots]

    def how_many(self):
        """Returns how many orders go on from here."""
        return many_shuffled(self._lots, self._states)

    def next_rooms(self):
        """Returns the ascending list of the rooms that can be taken here."""
        found = sum([lot.open_behind(taken) for lot, taken in zip(self._lots, self._states)])
        return self._bits.rooms_in(found)

    def _states_with(self, room):
        bit = self._bits.bit(room)
        return [taken | (bit & lot.left()) for lot, taken in zip(self._lots, self._states)]

    def how_many_with(self, room):
        """Returns how many orders go on from here with a room next."""
        return many_shuffled(self._lots, self._states_with(room))

    def take(self, room):
        """Takes a room."""
        self._states = self._states_with(room)


def count_orders(house, placing, faces):
    """Returns how many orders there are."""
    return Numbers(house, placing, faces).how_many()


def order_numbered(house, placing, faces, number):
    """Returns the order with an index among all, ascending."""
    numbers = Numbers(house, placing, faces)
    if not is_number_below(number, numbers.how_many()):
        raise BadNumber(number)
    order = []
    rooms = numbers.next_rooms()
    while rooms:
        for room in rooms:
            many = numbers.how_many_with(room)
            if number < many:
                order.append(room)
                break
            number -= many
        numbers.take(order[-1])
        rooms = numbers.next_rooms()
    return order


def order_number(house, placing, faces, order):
    """Returns the index of an order among all, ascending."""
    check_order(house, placing, faces, order)
    numbers = Numbers(house, placing, faces)
    number = 0
    for room in order:
        number += sum([numbers.how_many_with(other) for other in numbers.next_rooms() if other < room])
        numbers.take(room)
    return number


def next_order(house, placing, faces, order):
    """Returns the next order, ascending, None for the last one."""
    check_order(house, placing, faces, order)
    for index in reversed(range(len(order))):
        lots = Lots(house, placing, faces)
        take_row(lots, order[:index])
        greater = [room for room in lots.open_rooms() if room > order[index]]
        if greater:
            return list(order[:index]) + first_row_with(lots, greater[0])
    return None


def first_row_with(lots, room):
    """Has lots take a room, then all others, always the first one that can be: returns the list of these."""
    row = [room]
    lots.take(room)
    rooms = lots.open_rooms()
    while rooms:
        row.append(rooms[0])
        lots.take(rooms[0])
        rooms = lots.open_rooms()
    return row


def ahead_chance(house, placing, faces, room, other):
    """Returns the chance that one left room stands ahead of another, each order being as likely."""
    check_left(house, placing, faces, room)
    check_left(house, placing, faces, other)
    if room == other:
        return 0, 1
    bits, lots = lots_to_order(house, placing, faces)
    bit, other_bit = bits.bit(room), bits.bit(other)
    lot = lot_with(lots, bit)
    if lot.left() & other_bit:
        return fraction(lot.many_ahead(bit, other_bit), lot.many_behind(0))
    return shuffled_chance(lot.index_counts(bit), lot_with(lots, other_bit).index_counts(other_bit))


def shuffled_chance(one, other):
    """Returns the chance that one thing stands ahead of another, their rows being shuffled.

    It is told of each, by its index in its own row, how often it stands there.
    """
    over = 0
    for index, many in enumerate(one):
        ahead = 0
        for between, others in enumerate(other):
            # So many shuffles have just this many things of the other row ahead of the one.
            shuffles = comb(index + between, between)
            rest = len(one) - 1 - index
            ahead += shuffles * comb(rest + len(other) - between, rest)
            over += many * others * ahead
    return fraction(over, sum(one) * sum(other) * comb(len(one) + len(other), len(one)))


def mean_place(house, placing, faces, room):
    """Returns the mean of a left room's index, each order being as likely."""
    check_left(house, placing, faces, room)
    bits, lots = lots_to_order(house, placing, faces)
    counts = lot_with(lots, bits.bit(room)).index_counts(bits.bit(room))
    others = sum([many_bits(lot.left()) for lot in lots]) - len(counts)
    many = sum(counts)
    summed = sum([index * times for index, times in enumerate(counts)])
    # Each room of another lot stands as often in each gap of its own lot's row, one more than rooms there.
    gaps = len(counts) + 1
    return fraction(summed * gaps + others * (summed + many), many * gaps)
