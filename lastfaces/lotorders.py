"""Orders in which the left rooms of one last lot can be taken."""

from math import comb, factorial

from lastfaces.roombits import RoomBits, bits_in, grown_lots, many_bits, single_lots
from lastfaces.therule import check_goes


class LotOrders:
    """The orders of the left rooms of one last lot; rooms are told by bits, a state by those that are taken."""

    def __init__(self, bits, rooms, own, shows):
        self._bits = bits
        self._rooms = rooms
        self._own = own
        self._shows = shows
        self._left = rooms & ~sum(own)
        self._open = {}
        self._many = {self._left: 1}
        self._behind = {bit: self._stays_out(bit) for bit in bits_in(self._left)}
        self._hooks = self._found_hooks()

    def _grown(self, free):
        last, _ = grown_lots(self._bits, single_lots(self._bits, self._own, self._shows), free)
        return last

    def _stays_out(self, bit):
        free = self._left & ~bit
        return free & ~sum([rooms for _, rooms, _, _ in self._grown(free)])

    def _found_hooks(self):
        """Returns how many rooms each room and those behind it are, None if these do not tell how many orders are."""
        ahead = {bit: many_bits(self.ahead(bit)) for bit in self._behind}
        for bit in self._behind:
            if ahead[bit] > 0 and max([ahead[other] for other in bits_in(self.ahead(bit))]) < ahead[bit] - 1:
                return None
        return None if self.has_ring() else {bit: many_bits(self._behind[bit]) + 1 for bit in self._behind}

    def left(self):
        """Returns the left rooms."""
        return self._left

    def behind(self, bit):
        """Returns the rooms that a left room is always ahead of."""
        return self._behind[bit]

    def ahead(self, bit):
        """Returns the rooms that are always ahead of a left room."""
        return sum([other for other in self._behind if self._behind[other] & bit])

    def has_ring(self):
        """Tells whether there is a ring of doors within the lot: it hangs together."""
        ends = sum([many_bits(self._bits.around(bit) & self._rooms) for bit in bits_in(self._rooms)])
        return ends != 2 * (many_bits(self._rooms) - 1)

    def open_behind(self, taken):
        """Returns the rooms that can be taken next."""
        if taken not in self._open:
            found = 0
            for _, rooms, near, shows in self._grown(taken):
                found |= near & shows & ~rooms
            self._open[taken] = found
        return self._open[taken]

    def many_behind(self, taken):
        """Returns in how many ways one can go on until all are taken."""
        if taken not in self._many:
            self._many[taken] = self._way_count(taken)
        return self._many[taken]

    def _way_count(self, taken):
        if self._hooks is None:
            return sum([self.many_behind(taken | bit) for bit in bits_in(self.open_behind(taken))])
        rest = bits_in(self._left & ~taken)
        many = factorial(len(rest))
        for bit in rest:
            many //= self._hooks[bit]
        return many

    def rows_by_length(self):
        """Returns the list of dicts, by how many rooms are taken, from states to in how many ways one comes there."""
        told = [{0: 1}]
        for _ in range(many_bits(self._left)):
            further = {}
            for taken, many in told[-1].items():
                for bit in bits_in(self.open_behind(taken)):
                    further[taken | bit] = further.get(taken | bit, 0) + many
            told.append(further)
        return told

    def index_counts(self, bit):
        """Returns the list of how many orders have a left room at each index."""
        counts = []
        for rows in self.rows_by_length()[:-1]:
            fit = [taken for taken in rows if self.open_behind(taken) & bit]
            counts.append(sum([rows[taken] * self.many_behind(taken | bit) for taken in fit]))
        return counts

    def many_ahead(self, bit, other):
        """Returns how many orders have one left room ahead of another one."""
        many = 0
        for rows in self.rows_by_length():
            fit = [taken for taken in rows if self.open_behind(taken) & bit and not taken & other]
            many += sum([rows[taken] * self.many_behind(taken | bit) for taken in fit])
        return many

    def least_index(self, bit):
        """Returns the least index of a left room in orders."""
        if not self.has_ring():
            return many_bits(self.ahead(bit))
        if len(self._own) == 1:
            return self._doors_to(bit) - 1
        index = 0
        states = {0: True}
        while not any([self.open_behind(taken) & bit for taken in states]):
            states = {taken | more: True for taken in states for more in bits_in(self.open_behind(taken))}
            index += 1
        return index

    def _doors_to(self, bit):
        doors = 0
        found = self._own[0]
        while not found & bit:
            found |= self._bits.around(found) & self._rooms
            doors += 1
        return doors


def lots_to_order(house, placing, faces):
    """Returns the pair of the rooms as bits and of the list of the LotOrders of the last lots."""
    check_goes(house, placing, faces)
    bits = RoomBits(house)
    people = sorted(placing)
    own = [bits.bit(placing[person]) for person in people]
    shows = [bits.bits_of([room for room in house.rooms() if faces[room] == person]) for person in people]
    last, _ = grown_lots(bits, single_lots(bits, own, shows), bits.every_room())
    told = []
    for _, rooms, _, _ in last:
        within = [index for index in range(len(people)) if own[index] & rooms]
        told.append(LotOrders(bits, rooms, [own[index] for index in within], [shows[index] for index in within]))
    return bits, told


def lot_with(lots, bit):
    """Returns the one of some LotOrders that has a left room."""
    return [lot for lot in lots if lot.left() & bit][0]


def many_shuffled(lots, states):
    """Returns in how many ways one can go on, in all lots together, from their states."""
    many = 1
    length = 0
    for lot, taken in zip(lots, states):
        rest = many_bits(lot.left() & ~taken)
        length += rest
        many *= comb(length, rest) * lot.many_behind(taken)
    return many
