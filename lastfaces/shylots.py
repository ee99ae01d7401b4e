"""What people take in who keep away from rooms: rooms are told by bits, so that it can be asked very often."""

from lastfaces.maps import rooms_of, seen_rooms
from lastfaces.roombits import RoomBits


class ShyLots:
    """The people of a placing, the rooms that show each, and what they take in if they keep away from some rooms."""

    def __init__(self, house, placing, faces):
        self._bits = RoomBits(house)
        self._own = {person: self._bits.bit(placing[person]) for person in sorted(placing)}
        self._shows = {person: self._bits.bits_of(rooms_of(house, faces, person)) for person in self._own}
        self._seen = self._bits.bits_of(seen_rooms(house, faces))

    def bits_of(self, rooms):
        """Returns the number of a list of unlike rooms."""
        return self._bits.bits_of(rooms)

    def rooms_in(self, bits):
        """Returns the ascending list of the rooms of a number."""
        return self._bits.rooms_in(bits)

    def is_all(self, taken):
        """Tells whether some rooms are all that show somebody."""
        return self._seen & ~taken == 0

    def barred(self, shy):
        """Returns the dict from all people to the numbers of the rooms in their lists."""
        return {person: self._bits.bits_of(shy.get(person, [])) for person in self._own}

    def taken(self, shy):
        """Returns the number of the rooms taken in at last."""
        barred = self.barred(shy)
        lots = dict(self._own)
        near = {person: self._bits.around(lots[person]) for person in lots}
        taken = sum(list(self._own.values()))
        changed = True
        while changed:
            changed = False
            for person in self._own:
                free = (taken | self._shows[person]) & ~barred[person]
                more = near[person] & free & ~lots[person]
                while more:
                    changed = True
                    lots[person] |= more
                    taken |= more
                    near[person] |= self._bits.around(more)
                    more = near[person] & free & ~lots[person]
        return taken

    def open_rooms(self, taken, shy):
        """Returns the number of the rooms that can be taken in, just some being taken in."""
        barred = self.barred(shy)
        told = 0
        for person, own in self._own.items():
            lot = self._bits.reached(taken & ~barred[person], own)
            told |= self._bits.around(lot) & self._shows[person] & ~barred[person] & ~taken
        return told
