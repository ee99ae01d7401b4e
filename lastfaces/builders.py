"""Houses that are built room by room, with who stands in them and what they show."""

from lastfaces.houses import House
from lastfaces.things import new_names


class Builder:
    """Rooms with new names, the doors between them, who stands in them, and what they show."""

    def __init__(self, names):
        self._names = list(names)
        self._doors = []
        self._placing = {}
        self._faces = {}

    def build(self, face, near):
        """Builds a room that shows a face, with doors to rooms of a list: returns its name."""
        room = new_names(1, self._names)[0]
        self._names.append(room)
        self._faces[room] = face
        for other in near:
            self.link(room, other)
        return room

    def build_for(self, person, near):
        """Builds a room in which a person stands, with doors to rooms of a list: returns its name."""
        room = self.build(person, near)
        self._placing[person] = room
        return room

    def link(self, one, other):
        """Builds a door between two rooms."""
        self._doors.append((one, other))

    def house(self):
        """Returns the house of the rooms."""
        return House(list(self._faces), self._doors)

    def placing(self):
        """Returns the placing of who stands in the rooms."""
        return {person: self._placing[person] for person in sorted(self._placing)}

    def faces(self):
        """Returns the map of the rooms."""
        return {room: self._faces[room] for room in sorted(self._faces)}
