"""The maps of first faces that walks with known last faces can have."""

from lastfaces.bothmaps import seen_parts
from lastfaces.errors import BadNumber
from lastfaces.maps import is_map, seen_rooms
from lastfaces.therule import check_goes
from lastfaces.things import is_number_below


class Showings:
    """The ways in which the rooms of each piece can show all its people, told room by room."""

    def __init__(self, pieces):
        # Pieces are pairs (rooms, people); each has the index under which is kept what is still to be told.
        self._people = [people for _, people in pieces]
        self._at = {room: index for index, piece in enumerate(pieces) for room in piece[0]}
        self._tables = [showing_table(len(rooms), len(people)) for rooms, people in pieces]
        self._left = [len(rooms) for rooms, _ in pieces]
        self._lacking = [list(people) for _, people in pieces]

    def faces_for(self, room):
        """Returns the ascending list of the people whom a room can show."""
        return list(self._people[self._at[room]])

    def how_many(self):
        """Returns how many ways there are to tell what is left."""
        told = 1
        for index, table in enumerate(self._tables):
            told *= table[self._left[index]][len(self._lacking[index])]
        return told

    def how_many_with(self, room, person):
        """Returns how many of these ways have a person in a room that is still to be told."""
        at = self._at[room]
        lacking = self._lacking[at]
        ahead = self._tables[at][self._left[at]][len(lacking)]
        behind = self._tables[at][self._left[at] - 1][len([other for other in lacking if other != person])]
        return self.how_many() // ahead * behind

    def show(self, room, person):
        """Tells that a room shows a person."""
        at = self._at[room]
        self._left[at] -= 1
        self._lacking[at] = [other for other in self._lacking[at] if other != person]


def showing_table(rooms, people):
    """Returns a table: by how many rooms are left, and how many people lack, how many ways there are to show these."""
    table = [[1] + [0] * people]
    for _ in range(rooms):
        ahead = table[-1]
        row = [people * ahead[0]]
        for lacking in range(1, people + 1):
            row.append(lacking * ahead[lacking - 1] + (people - lacking) * ahead[lacking])
        table.append(row)
    return table


def shared_out(house, placing, faces):
    """Returns the list of the pairs of each piece's rooms and the people who stand there."""
    check_goes(house, placing, faces)
    pieces = seen_parts(house, faces)
    return [(piece, [person for person in sorted(placing) if placing[person] in piece]) for piece in pieces]


def is_first_map(house, placing, faces, thing):
    """Tells of any object whether it is the first faces of a walk with these last faces by which all stand so."""
    pieces = shared_out(house, placing, faces)
    if not is_map(house, thing) or seen_rooms(house, thing) != seen_rooms(house, faces):
        return False
    return all([sorted({thing[room] for room in rooms}) == people for rooms, people in pieces])


def count_first(house, placing, faces):
    """Returns how many maps of first faces there are."""
    return Showings(shared_out(house, placing, faces)).how_many()


def first_at(house, placing, faces, number):
    """Returns the map of first faces with an index."""
    showings = Showings(shared_out(house, placing, faces))
    if not is_number_below(number, showings.how_many()):
        raise BadNumber(number)
    told = {room: None for room in house.rooms()}
    for room in seen_rooms(house, faces):
        for person in showings.faces_for(room):
            many = showings.how_many_with(room, person)
            if number < many:
                told[room] = person
                break
            number -= many
        showings.show(room, told[room])
    return told


def first_number(house, placing, faces, thing):
    """Returns the index of a map of first faces, None of any other object."""
    if not is_first_map(house, placing, faces, thing):
        return None
    showings = Showings(shared_out(house, placing, faces))
    number = 0
    for room in seen_rooms(house, faces):
        ahead = [person for person in showings.faces_for(room) if person < thing[room]]
        number += sum([showings.how_many_with(room, person) for person in ahead])
        showings.show(room, thing[room])
    return number
