"""States of an inn, and what is asked and answered of them."""

from lastfaces.therule import goes_with, is_placed, last_lots, left_out
from lastfaces.things import is_list


class State:
    """A house, where all are in it, what its rooms show, and which questions are watched; a state never changes."""

    def __init__(self, house, where, faces, watched):
        self._house = house
        self._where = {person: where[person] for person in sorted(where)}
        self._faces = {}
        for room in house.rooms():
            people = [person for person in self._where if self._where[person] == room]
            self._faces[room] = people[0] if people else faces.get(room)
        self._watched = list(watched)

    def house(self):
        """Returns the house."""
        return self._house

    def where(self):
        """Returns the dict from all people to their rooms."""
        return dict(self._where)

    def faces(self):
        """Returns the map of the faces."""
        return dict(self._faces)

    def watched(self):
        """Returns the list of the pairs (question, whether it is held)."""
        return list(self._watched)

    def is_free(self, room):
        """Tells whether nobody is in a room."""
        return room not in list(self._where.values())

    def is_alone(self):
        """Tells whether each is in a room of its own."""
        rooms = list(self._where.values())
        return len(set(rooms)) == len(rooms)

    def can_be(self):
        """Tells whether the faces go with where all are, None where nobody is there, or not each is alone."""
        return self.can_show(self._faces) if self._where and self.is_alone() else None

    def can_show(self, faces):
        """Tells whether other faces go with where all are, each alone."""
        return goes_with(self._house, self._where, faces)


def is_question_of(rooms, where, thing):
    """Tells of any object whether it is a question of an inn with some rooms and some people."""
    if not is_list(thing) or not 1 <= len(thing) <= 2:
        return False
    if len(thing) == 1:
        return thing[0] in ("alone", "can", "lots", "left")
    if thing[0] == "shows":
        return thing[1] in rooms
    return thing[0] in ("reach", "seen") and is_placed(where, thing[1])


def is_question_now(state, thing):
    """Tells of any object whether it is a question of a state."""
    return is_question_of(state.house().rooms(), state.where(), thing)


def answer_of(state, question):
    """Returns the answer to a question of a state."""
    kind = question[0]
    where, faces = state.where(), state.faces()
    if kind == "alone":
        return state.is_alone()
    if kind == "shows":
        return faces[question[1]]
    if kind == "seen":
        return len([room for room in faces if faces[room] == question[1]])
    can = state.can_be()
    if can is None or kind == "can":
        return can
    if kind == "left":
        return len(left_out(state.house(), where, faces))
    lots = last_lots(state.house(), where, faces)
    if kind == "lots":
        return len(lots)
    return sum([len(rooms) for people, rooms in lots if question[1] in people])
