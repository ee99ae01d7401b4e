"""Rooms told as bits of a number, and lots that take in rooms told so: for what has to be asked very often."""

from lastfaces.houses import beside


class RoomBits:
    """The rooms of a house as bits: the first room ascending is the lowest one, a number has a bit for each room."""

    def __init__(self, house):
        self._bit = {room: 1 << index for index, room in enumerate(house.rooms())}
        self._near = {self._bit[room]: self.bits_of(beside(house, room)) for room in self._bit}

    def bit(self, room):
        """Returns the bit of a room."""
        return self._bit[room]

    def every_room(self):
        """Returns the number of all rooms."""
        return (1 << len(self._bit)) - 1

    def bits_of(self, rooms):
        """Returns the number of a list of unlike rooms."""
        return sum([self._bit[room] for room in rooms])

    def rooms_in(self, bits):
        """Returns the ascending list of the rooms of a number."""
        return [room for room in self._bit if self._bit[room] & bits]

    def around(self, bits):
        """Returns the number of the rooms beside some of a number, perhaps in it."""
        near = 0
        for bit in bits_in(bits):
            near |= self._near[bit]
        return near

    def reached(self, some, bits):
        """Returns the number of the rooms to which doors lead from those of a number through rooms of some alone."""
        found = bits
        edge = bits
        while edge:
            edge = self.around(edge) & some & ~found
            found |= edge
        return found


def bits_in(bits):
    """Returns the ascending list of the bits of a number."""
    told = []
    while bits:
        lowest = bits & -bits
        told.append(lowest)
        bits -= lowest
    return told


def many_bits(bits):
    """Returns how many bits a number has."""
    many = 0
    while bits:
        bits &= bits - 1
        many += 1
    return many


def single_lots(bits, own, shows):
    """Returns the list of the lots of one person each, by the rooms where people stand, and those that can show each.

    A lot is a quadruple of numbers: of its people (a bit for each index), of its rooms, of the rooms beside
    these, and of all rooms that can show some of its people.
    """
    return [(1 << index, own[index], bits.around(own[index]), shows[index]) for index in range(len(own))]


def lot_of_all(lots):
    """Returns the lot into which some lots are made one."""
    people, rooms, near, shows = 0, 0, 0, 0
    for lot in lots:
        people |= lot[0]
        rooms |= lot[1]
        near |= lot[2]
        shows |= lot[3]
    return people, rooms, near, shows


def grown_lots(bits, lots, free):
    """Returns the pair of the lots that are left when lots take free rooms as long as any can be, and of the takings.

    Lots that touch are made one. The takings are the list, in a row, of pairs: of the people of a lot, and of the
    rooms that it takes at once, some of them perhaps taken ahead by another one that it touches.
    """
    waiting = list(lots)
    last = []
    takings = []
    while waiting:
        people, rooms, near, shows = waiting.pop()
        touched = rooms | near
        touching = [lot for lot in last if lot[1] & touched]
        more = near & shows & free & ~rooms
        if touching or more:
            takings.append((people, more))
            last = [lot for lot in last if not lot[1] & touched]
            waiting.append(lot_of_all([(people, rooms | more, near | bits.around(more), shows), *touching]))
        else:
            last.append((people, rooms, near, shows))
    return last, takings
