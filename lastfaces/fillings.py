"""Maps within guesses that go with a placing."""

from lastfaces.guesses import check_placed_guesses, in_order
from lastfaces.houses import beside, check_room
from lastfaces.roombits import RoomBits, grown_lots, single_lots
from lastfaces.wants import ring_of_doors


class Fillings:
    """The fillings of guesses, which lots find that take in each room that can show one of their people."""

    def __init__(self, house, placing, guesses):
        self._bits = RoomBits(house)
        self._guesses = {room: in_order(guesses[room]) for room in house.rooms()}
        self._names = sorted(placing)
        self._own = [self._bits.bit(placing[person]) for person in self._names]
        self._shows = [self._showing(person) for person in self._names]
        self._blank = self._showing(None)

    def _showing(self, face):
        return self._bits.bits_of([room for room in self._guesses if face in self._guesses[room]])

    def _grown(self, shows):
        return grown_lots(self._bits, single_lots(self._bits, self._own, shows), self._bits.every_room())

    def first_amiss(self):
        """Returns the first person whose room has it not among its guesses, None if there is none."""
        for person, own, showing in zip(self._names, self._own, self._shows):
            if not own & showing:
                return person
        return None

    def lots(self):
        """Returns the ascending list of the last lots."""
        last, _ = self._grown(self._shows)
        told = []
        for people, rooms, _, _ in last:
            names = [person for index, person in enumerate(self._names) if (people >> index) & 1]
            told.append((names, self._bits.rooms_in(rooms)))
        return sorted(told)

    def taken(self):
        """Returns the ascending list of the rooms that the lots take in."""
        return sorted([room for _, rooms in self.lots() for room in rooms])

    def first_outside(self):
        """Returns the first room outside the lots that cannot show nobody, None if there is none."""
        taken = self.taken()
        outside = [room for room in self._guesses if room not in taken and None not in self._guesses[room]]
        return outside[0] if outside else None

    def all_open(self):
        """Returns what can be shown where nothing is fixed: the pair of a list, by people, of rooms, and of rooms.

        These are numbers of the rooms that can show each person, and of those that can show nobody.
        """
        return list(self._shows), self._blank

    def fixed(self, can, room, face):
        """Returns what can be shown if one room shows a face."""
        shows, blank = can
        bit = self._bits.bit(room)
        shows = [showing | bit if person == face else showing & ~bit for person, showing in zip(self._names, shows)]
        return shows, blank | bit if face is None else blank & ~bit

    def fits(self, can):
        """Tells whether there is a filling of what can be shown."""
        shows, blank = can
        for own, showing in zip(self._own, shows):
            if not own & showing:
                return False
        last, _ = self._grown(shows)
        return sum([rooms for _, rooms, _, _ in last]) | blank == self._bits.every_room()

    def possible(self, room):
        """Returns the list of the faces that a room shows in some filling, people ascending, None last."""
        can = self.all_open()
        return [face for face in self._guesses[room] if self.fits(self.fixed(can, room, face))]

    def fullest(self):
        """Returns the map in which all rooms that the lots take in show who takes them: there is a filling."""
        faces = {room: None for room in self._guesses}
        for person, own in zip(self._names, self._own):
            faces[self._bits.rooms_in(own)[0]] = person
        _, takings = self._grown(self._shows)
        for people, rooms in takings:
            for room in self._bits.rooms_in(rooms):
                if faces[room] is None:
                    faces[room] = self._first_shown(people, room)
        return faces

    def _first_shown(self, people, room):
        bit = self._bits.bit(room)
        for index, person in enumerate(self._names):
            if (people >> index) & 1 and self._shows[index] & bit:
                return person
        return None

    def many(self, can, rooms):
        """Returns in how many ways rooms of one lot show what can be shown in fillings."""
        if not self.fits(can):
            return 0
        if not rooms:
            return 1
        told = [self.many(self.fixed(can, rooms[0], face), rooms[1:]) for face in self._guesses[rooms[0]]]
        return sum(told)


def has_fillings(fillings):
    """Tells whether there is a filling."""
    return fillings.fits(fillings.all_open())


def filling(house, placing, guesses):
    """Returns a map within guesses that goes with a placing, None if there is none."""
    return fullest(house, placing, guesses)


def filling_paper(house, placing, guesses):
    """Returns None if there is a filling, else a paper that shows why there is none."""
    check_placed_guesses(house, placing, guesses)
    fillings = Fillings(house, placing, guesses)
    person = fillings.first_amiss()
    if person is not None:
        return "room", person
    room = fillings.first_outside()
    return None if room is None else ("lots", fillings.lots(), room)


def could_show(house, placing, guesses, room):
    """Returns the list of the faces that a room shows in some filling, people ascending, None last."""
    check_placed_guesses(house, placing, guesses)
    check_room(house, room)
    return Fillings(house, placing, guesses).possible(room)


def narrowed(house, placing, guesses):
    """Returns the dict from all rooms to the faces that they show in some filling, None if there is no filling."""
    check_placed_guesses(house, placing, guesses)
    fillings = Fillings(house, placing, guesses)
    if not has_fillings(fillings):
        return None
    return {room: fillings.possible(room) for room in house.rooms()}


def sure_faces(house, placing, guesses):
    """Returns the dict from the rooms that show one face in all fillings to it, None if there is no filling."""
    told = narrowed(house, placing, guesses)
    if told is None:
        return None
    return {room: told[room][0] for room in told if len(told[room]) == 1}


def most_seen(house, placing, guesses):
    """Returns the list of the rooms that show somebody in some filling, None if there is no filling."""
    check_placed_guesses(house, placing, guesses)
    fillings = Fillings(house, placing, guesses)
    return fillings.taken() if has_fillings(fillings) else None


def fullest(house, placing, guesses):
    """Returns a filling in which all rooms show somebody that do so in some filling, None if there is no filling."""
    check_placed_guesses(house, placing, guesses)
    fillings = Fillings(house, placing, guesses)
    return fillings.fullest() if has_fillings(fillings) else None


def last_rooms(house, placing, guesses):
    """Returns the dict from all people to the rooms that show them in some filling, None if there is no filling."""
    told = narrowed(house, placing, guesses)
    if told is None:
        return None
    return {person: [room for room in told if person in told[room]] for person in sorted(placing)}


def count_fillings(house, placing, guesses):
    """Returns how many fillings there are."""
    told = narrowed(house, placing, guesses)
    if told is None:
        return 0
    if len(placing) == 1 and ring_of_doors(house) is None:
        person = min(placing)
        return many_behind(house, told, person, placing[person], None)
    fillings = Fillings(house, placing, told)
    many = 1
    # Rooms of unlike lots do not bear on one another.
    for _, rooms in fillings.lots():
        many *= fillings.many(fillings.all_open(), [room for room in rooms if len(told[room]) > 1])
    return many


def many_behind(house, guesses, person, room, ahead):
    """Returns how many ways a room shows one person, by what lies further on: guesses are narrowed.

    So a room further on that may show nobody has nobody shown behind it then, which is one way.
    """
    many = 1
    for further in beside(house, room):
        if further != ahead:
            shown = many_behind(house, guesses, person, further, room) if person in guesses[further] else 0
            many *= shown + (1 if None in guesses[further] else 0)
    return many
