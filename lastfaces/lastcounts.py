"""How many placings keep lists, and which one has which number."""

from lastfaces.errors import BadNumber, NoneGoes, NotGoing
from lastfaces.fields import check_lists, splits
from lastfaces.lastamong import last_clash, pieces_of
from lastfaces.maps import is_placing
from lastfaces.roombits import many_bits
from lastfaces.therule import goes_with
from lastfaces.things import is_number_below


class Joinings:
    """How many choices, out of numbers of rooms for each person, join each field of a lot of people."""

    def __init__(self, piece, choices):
        self._piece = piece
        self._choices = choices
        self._joining = {}
        self._apart = {}

    def joining(self, lot, field):
        """Returns how many choices of a lot join a field: all in it, less those that end in several fields."""
        key = (lot, field)
        if key not in self._joining:
            self._joining[key] = self._all_in(lot, field)
            if self._joining[key] > 0:
                self._joining[key] -= sum([self._begun(part, rest, field) for part, rest in splits(lot)])
        return self._joining[key]

    def _all_in(self, lot, field):
        many = 1
        for index, choice in enumerate(self._choices):
            if (lot >> index) & 1:
                many *= many_bits(choice & field)
        return many

    def _begun(self, part, rest, free):
        """Returns how many choices end in fields among free rooms, no door between two, the first one that of part."""
        many = 0
        for field in self._piece.fields_of(part):
            if (field & free) == field:
                left = free & ~field & ~self._piece.around(field)
                behind = self._ending_apart(rest, left)
                if behind > 0:
                    many += behind * self.joining(part, field)
        return many

    def _ending_apart(self, lot, free):
        """Returns how many choices of a lot end in fields among free rooms, no door between two, perhaps in one."""
        if lot == 0:
            return 1
        key = (lot, free & sum(self._piece.fields_of(lot)))
        if key not in self._apart:
            self._apart[key] = sum([self._begun(part, rest, free) for part, rest in [(lot, 0)] + splits(lot)])
        return self._apart[key]


class PieceCounts:
    """How many placings of one piece's people keep lists."""

    def __init__(self, piece):
        self._piece = piece
        self._counts = {}

    def how_many(self, lists):
        """Returns how many there are, by lists of these people and perhaps others."""
        choices = self._piece.choices(lists)
        key = tuple(choices)
        if key not in self._counts:
            lot = self._piece.everybody()
            joinings = Joinings(self._piece, choices)
            self._counts[key] = joinings.joining(lot, self._piece.fields_of(lot)[0])
        return self._counts[key]


class Placings:
    """The placings that keep lists, which compare by their rooms, people ascending."""

    def __init__(self, house, faces, lists):
        self._lists = {person: list(lists[person]) for person in lists}
        self._pieces = pieces_of(house, faces)
        self._counts = [PieceCounts(piece) for piece in self._pieces or []]
        self._choice = {}
        for piece in self._pieces or []:
            for person in piece.all_names():
                self._choice[person] = piece.choice(lists, person)

    def choice(self, person):
        """Returns the ascending list of the rooms out of which a person chooses."""
        return list(self._choice.get(person, []))

    def all_names(self):
        """Returns the ascending list of the people."""
        return sorted(self._choice)

    def count_with(self, rooms):
        """Returns how many have some people in the rooms of a dict, each one of its choice."""
        if self._pieces is None:
            return 0
        lists = {**self._lists, **{person: [rooms[person]] for person in rooms}}
        many = 1
        for counts in self._counts:
            many *= counts.how_many(lists)
        return many

    def numbered(self, number):
        """Returns the one with a number below how many there are."""
        placing = {}
        for person in self.all_names():
            for room in self.choice(person):
                many = self.count_with({**placing, person: room})
                if number < many:
                    placing[person] = room
                    break
                number -= many
        return placing

    def number_of(self, placing):
        """Returns the number of one of them."""
        number = 0
        ahead = {}
        for person in self.all_names():
            rooms = [room for room in self.choice(person) if room < placing[person]]
            number += sum([self.count_with({**ahead, person: room}) for room in rooms])
            ahead[person] = placing[person]
        return number


def keeps(house, faces, lists, thing):
    """Tells of any object whether it is a placing that keeps lists."""
    if not is_placing(house, thing) or not goes_with(house, thing, faces):
        return False
    return all([thing[person] in lists[person] for person in lists])


def check_some_keep(house, faces, lists, placings):
    """Raises NoneGoes if there are no placings that keep lists."""
    if placings.count_with({}) == 0:
        raise NoneGoes(last_clash(house, faces, lists))


def count_last(house, faces, lists):
    """Returns how many placings keep lists."""
    check_lists(house, faces, lists)
    return Placings(house, faces, lists).count_with({})


def last_at(house, faces, lists, number):
    """Returns the placing with a number among those that keep lists."""
    check_lists(house, faces, lists)
    placings = Placings(house, faces, lists)
    if not is_number_below(number, placings.count_with({})):
        raise BadNumber(number)
    return placings.numbered(number)


def last_number(house, faces, lists, placing):
    """Returns the number of a placing among those that keep lists."""
    check_lists(house, faces, lists)
    if not keeps(house, faces, lists, placing):
        raise NotGoing(placing)
    return Placings(house, faces, lists).number_of(placing)


def drawn_last(house, faces, lists, chooser):
    """Returns the placing with the number that a function chooses, which is handed how many keep lists."""
    check_lists(house, faces, lists)
    placings = Placings(house, faces, lists)
    check_some_keep(house, faces, lists, placings)
    number = chooser(placings.count_with({}))
    if not is_number_below(number, placings.count_with({})):
        raise BadNumber(number)
    return placings.numbered(number)
