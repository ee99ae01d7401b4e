"""Fields of people, and which of them are joined by choices of last rooms."""

from lastfaces.errors import BadLists, BadPeople
from lastfaces.houses import is_room
from lastfaces.maps import check_map, rooms_of, shown
from lastfaces.things import unlike_fault
from lastfaces.ways import parts, round_about


class Fields:
    """The fields of lots of people; a lot of people, or a field, is a number with a bit for each person, or room."""

    def __init__(self, house, faces, people):
        self._house = house
        self._names = sorted(people)
        self._bit = {room: 1 << index for index, room in enumerate(house.rooms())}
        self._shows = {person: rooms_of(house, faces, person) for person in self._names}
        self._found = {}
        self._around = {}

    def all_names(self):
        """Returns the ascending list of the people."""
        return list(self._names)

    def everybody(self):
        """Returns the lot of all."""
        return (1 << len(self._names)) - 1

    def bits_of(self, rooms):
        """Returns the number of a list of unlike rooms."""
        return sum([self._bit[room] for room in rooms])

    def rooms_in(self, bits):
        """Returns the ascending list of the rooms of a number."""
        return [room for room in self._bit if self._bit[room] & bits]

    def choice(self, lists, person):
        """Returns the ascending list of the rooms out of which a person chooses."""
        return sorted(lists.get(person, self._shows[person]))

    def choices(self, lists):
        """Returns the list of the numbers of the rooms out of which each person chooses."""
        return [self.bits_of(self.choice(lists, person)) for person in self._names]

    def fields_of(self, lot):
        """Returns the list of the fields of a lot, ascending as lists of rooms."""
        if lot not in self._found:
            people = [person for index, person in enumerate(self._names) if (lot >> index) & 1]
            rooms = [room for person in people for room in self._shows[person]]
            self._found[lot] = [self.bits_of(part) for part in parts(self._house, rooms)]
        return list(self._found[lot])

    def around(self, field):
        """Returns the number of the rooms beside a field."""
        if field not in self._around:
            self._around[field] = self.bits_of(round_about(self._house, self.rooms_in(field)))
        return self._around[field]


class Joined:
    """The fields that some choice joins, of all lots of people."""

    def __init__(self, fields_told, lists):
        self._fields = fields_told
        self._choices = fields_told.choices(lists)
        # By the number of a lot: the list of the fields that it joins, and the number of all rooms of these.
        self._joined = [[]]
        self._whole = [0]
        for lot in range(1, fields_told.everybody() + 1):
            found = self._joined_by(lot)
            self._joined.append(found)
            self._whole.append(sum(found))

    def _joined_by(self, lot):
        met = self._choices[last_index(lot)] if is_single(lot) else self._met_by_two(lot)
        return [field for field in self._fields.fields_of(lot) if field & met]

    def _met_by_two(self, lot):
        """Returns the number of the rooms of fields that a part of a lot joins, beside one that the others join."""
        met = 0
        for part, others in splits(lot):
            for field in self._joined[part]:
                if self._fields.around(field) & self._whole[others]:
                    met = met | field
        return met

    def joined_by_all(self):
        """Returns the list of the fields that all together join."""
        return list(self._joined[-1])

    def placing_in(self, lot, field):
        """Returns a dict from a lot's people to rooms: a choice that joins a field, which some choice does."""
        if is_single(lot):
            person = self._fields.all_names()[last_index(lot)]
            return {person: self._fields.rooms_in(self._choices[last_index(lot)] & field)[0]}
        for part, others in splits(lot):
            for one in self._joined[part]:
                beside_one = [other for other in self._joined[others] if self._fields.around(one) & other]
                if one & field and beside_one:
                    return {**self.placing_in(part, one), **self.placing_in(others, beside_one[0])}
        return None


def is_single(lot):
    """Tells whether a lot is of one person."""
    return lot & (lot - 1) == 0


def last_index(lot):
    """Returns the index of the last person of a lot."""
    return lot.bit_length() - 1


def splits(lot):
    """Returns the list of the pairs of two lots into which a lot falls, each once."""
    first = lot & -lot
    rest = lot - first
    told = []
    others = rest
    while others:
        told.append((lot - others, others))
        others = (others - 1) & rest
    return told


def is_lists(house, faces, thing):
    """Tells of any object whether it is a dict from people shown to lists of unlike rooms that show them."""
    if not isinstance(thing, dict):
        return False
    people = shown(house, faces)
    return all([person in people and shows_fault(house, faces, person, thing[person]) is None for person in thing])


def shows_fault(house, faces, person, rooms):
    """Returns the index of the first thing that is no room that shows a person, or stood before: 0 for no list."""
    return unlike_fault(rooms, lambda thing: thing if is_room(house, thing) and faces[thing] == person else None)


def check_lists(house, faces, lists):
    """Raises BadMap for what is no map, then BadLists for what are no lists."""
    check_map(house, faces)
    if not is_lists(house, faces, lists):
        raise BadLists(lists)


def check_people(house, faces, people):
    """Raises BadMap for what is no map, then BadPeople for what is no list of one or more unlike people shown."""
    names = shown(house, faces)
    fault = unlike_fault(people, lambda thing: thing if thing in names else None)
    if fault is None and len(people) == 0:
        fault = 0
    if fault is not None:
        raise BadPeople(fault)


def fields(house, faces, people):
    """Returns the ascending list of the parts of the rooms that show some of people."""
    check_people(house, faces, people)
    return parts(house, [room for room in house.rooms() if faces[room] in people])


def joined_fields(house, faces, lists, people):
    """Returns the ascending list of the fields of people that some choice joins."""
    check_lists(house, faces, lists)
    check_people(house, faces, people)
    fields_told = Fields(house, faces, people)
    return [fields_told.rooms_in(field) for field in Joined(fields_told, lists).joined_by_all()]
