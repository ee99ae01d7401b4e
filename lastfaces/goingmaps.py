"""All maps that go with a placing, told one by one: for houses in which they are not too many."""

from lastfaces.fillings import Fillings


class GoingMaps:
    """The maps within guesses that go with a placing, in the order of the guesses, rooms ascending."""

    def __init__(self, house, placing, guesses):
        self._rooms = house.rooms()
        self._guesses = guesses
        self._fillings = Fillings(house, placing, guesses)

    def all_maps(self):
        """Returns the list of all of them."""
        return self.unlike_at({}, len(self._rooms))

    def unlike_at(self, faces, many):
        """Returns the list of those that are unlike the faces of a dict at so many rooms at most."""
        rows = self._rows(self._fillings.all_open(), 0, faces, many)
        return [dict(zip(self._rooms, row)) for row in rows]

    def _rows(self, can, index, faces, many):
        """Returns the list of the lists of the faces of all rooms from an index on, of what can be shown."""
        if self._surely_unlike(index, faces) > many or not self._fillings.fits(can):
            return []
        if index == len(self._rooms):
            return [[]]
        room = self._rooms[index]
        told = []
        for face in self._guesses[room]:
            left = many if face == faces.get(room) else many - 1
            if left >= 0:
                behind = self._rows(self._fillings.fixed(can, room, face), index + 1, faces, left)
                told.extend([[face, *row] for row in behind])
        return told

    def _surely_unlike(self, index, faces):
        """Returns how many rooms from an index on are unlike whatever they show, as no guess is alike."""
        return len([room for room in self._rooms[index:] if room in faces and faces[room] not in self._guesses[room]])


def all_guesses(house, placing):
    """Returns what rooms of maps that go can show: None ahead of people, where people stand these alone."""
    standing = {room: person for person, room in placing.items()}
    faces = [None, *sorted(placing)]
    return {room: [standing[room]] if room in standing else faces for room in house.rooms()}


def full_guesses(house, placing):
    """Returns what rooms of maps that go can show if each shows somebody."""
    guesses = all_guesses(house, placing)
    return {room: [face for face in guesses[room] if face is not None] for room in guesses}
