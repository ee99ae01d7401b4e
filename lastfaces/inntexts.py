"""Texts of inns."""

from lastfaces.errors import BadInn, BadText
from lastfaces.houses import House
from lastfaces.inns import Inn, new_inn
from lastfaces.innstates import State, is_question_of
from lastfaces.things import is_name

# By the words with which lines begin: the lines of a lower number come ahead.
STAGES = {"room": 0, "door": 1, "in": 2, "face": 3, "watch": 4, "hold": 4}
# Of how many parts, from the first one, lines of a kind ascend: a person has one line, and so has a room's face.
KEY_PARTS = {"room": 1, "door": 2, "in": 1, "face": 1}


def write_inn(inn):
    """Returns the text of an inn."""
    if not isinstance(inn, Inn):
        raise BadInn(inn)
    where, faces = inn.where(), inn.faces()
    taken = list(where.values())
    lines = [f"room {room}" for room in inn.now().rooms()]
    lines.extend([f"door {one} {other}" for one, other in inn.now().doors()])
    lines.extend([f"in {person} {room}" for person, room in where.items()])
    lines.extend([f"face {room} {faces[room]}" for room in faces if faces[room] is not None and room not in taken])
    for question, _, is_held in inn.watched():
        lines.append(" ".join(["hold" if is_held else "watch", *question]))
    return "".join([line + "\n" for line in lines])


class Draft:
    """What lines of a text tell of an inn, read one behind another."""

    def __init__(self):
        self._rooms = []
        self._doors = []
        self._where = {}
        self._faces = {}
        self._watched = []
        # The number of the last line's kind, and by what it compares with others of this kind.
        self._stage = 0
        self._key = None

    def has_rooms(self):
        """Tells whether there is a room."""
        return len(self._rooms) > 0

    def state(self):
        """Returns the state of an inn with just this."""
        return State(House(self._rooms, self._doors), self._where, self._faces, self._watched)

    def read(self, line):
        """Reads a line, if it can come now: tells whether it can."""
        kind, *parts = line.split(" ")
        if kind not in STAGES or STAGES[kind] < self._stage:
            return False
        if STAGES[kind] == 4:
            is_read = self._read_question(kind, tuple(parts))
        else:
            key = tuple(parts[:KEY_PARTS[kind]])
            is_read = self._is_next(kind, key) and self._read_parts(kind, parts)
            self._key = key
        self._stage = STAGES[kind]
        return is_read

    def _is_next(self, kind, key):
        """Tells whether a line ascends behind the last one, if this is of the same kind."""
        return self._key is None or STAGES[kind] > self._stage or self._key < key

    def _read_parts(self, kind, parts):
        if kind == "room":
            is_right = len(parts) == 1 and is_name(parts[0])
            self._rooms.extend(parts)
            return is_right
        if len(parts) != 2:
            return False
        one, other = parts
        if kind == "door":
            self._doors.append((one, other))
            return one in self._rooms and other in self._rooms and one < other
        if kind == "in":
            is_right = is_name(one) and other in self._rooms
            self._where[one] = other
            return is_right
        is_right = one in self._rooms and one not in list(self._where.values())
        self._faces[one] = other
        return is_right and other in self._where

    def _read_question(self, kind, question):
        told = [other for other, _ in self._watched]
        self._watched.append((question, kind == "hold"))
        return self.has_rooms() and question not in told and is_question_of(self._rooms, self._where, question)


def read_inn(text):
    """Returns the inn of a text."""
    if not isinstance(text, str):
        raise BadText(0)
    lines = text.split("\n")
    draft = Draft()
    for index, line in enumerate(lines[:-1]):
        if not draft.read(line):
            raise BadText(index + 1)
    # What stands behind the last line feed is no line.
    if lines[-1] or not draft.has_rooms():
        raise BadText(len(lines))
    return new_inn(draft.state())
