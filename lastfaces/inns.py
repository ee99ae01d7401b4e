"""A house that lives: rooms are built in it, people come, and go about."""

from lastfaces.errors import BadName, BadQuestion, NoCount, Occupied, WouldChange
from lastfaces.houses import House, check_room
from lastfaces.inndeeds import changes_between, done
from lastfaces.innstates import State, answer_of, is_question_now
from lastfaces.things import is_name, is_number_below


class Inn:
    """A house in which people live, what was done in it, and what can be done again."""

    def __init__(self, room):
        if not is_name(room):
            raise BadName(room)
        # The pairs of the deeds and the states behind them, which never change; none made the first one.
        self._past = [(None, State(House([room], []), {}, {}, []))]
        self._undone = []

    def _state(self):
        return self._past[-1][1]

    def now(self):
        """Returns the house."""
        return self._state().house()

    def where(self):
        """Returns the dict from all people to their rooms."""
        return self._state().where()

    def faces(self):
        """Returns the map of the faces: of who is in each room, else went out of it last or was painted there."""
        return self._state().faces()

    def watched(self):
        """Returns the list of the triples (question, its answer, whether it is held), as they came."""
        state = self._state()
        return [(question, answer_of(state, question), is_held) for question, is_held in state.watched()]

    def __eq__(self, other):
        if not isinstance(other, Inn):
            return False
        mine, its = self._state(), other._state()
        if mine.house() != its.house() or mine.where() != its.where():
            return False
        return mine.faces() == its.faces() and mine.watched() == its.watched()

    def do(self, deed):
        """Does a deed: returns the list of the triples (question, ahead, behind) of what is answered otherwise."""
        kept, state = done(self._state(), deed)
        told = changes_between(self._state(), state)
        held = [question for question, is_held in self._state().watched() if is_held]
        for question, _, _ in told:
            if question in held:
                raise WouldChange(question)
        self._past = self._past + [(kept, state)]
        self._undone = []
        return told

    def is_question(self, thing):
        """Tells of any object whether it is a question now."""
        return is_question_now(self._state(), thing)

    def answer(self, question):
        """Returns the answer to a question."""
        if not self.is_question(question):
            raise BadQuestion(question)
        return answer_of(self._state(), question)

    def would(self, deed):
        """Returns what doing a deed would return, even if a held question bars it; nothing is done."""
        _, state = done(self._state(), deed)
        return changes_between(self._state(), state)

    def could_show(self, room):
        """Returns the ascending list of the people with one of whom painted in a room the faces go."""
        state = self._state()
        check_room(state.house(), room)
        if not state.is_free(room):
            raise Occupied(room)
        if state.can_be() is None:
            return []
        return [person for person in state.where() if state.can_show({**state.faces(), room: person})]

    def mending_rooms(self):
        """Returns the ascending list of the rooms with one of which wiped the faces go, if they do not by now."""
        state = self._state()
        faces = state.faces()
        if state.can_be() is not False:
            return []
        rooms = [room for room in faces if faces[room] is not None and state.is_free(room)]
        return [room for room in rooms if state.can_show({**faces, room: None})]

    def count(self):
        """Returns how many deeds are done and not taken back."""
        return len(self._past) - 1

    def deeds(self):
        """Returns the list of the deeds that are done and not taken back."""
        return [deed for deed, _ in self._past[1:]]

    def undo(self):
        """Takes the last deed back: returns it, None if there is none."""
        if len(self._past) == 1:
            return None
        self._undone = self._undone + self._past[-1:]
        self._past = self._past[:-1]
        return self._undone[-1][0]

    def again(self):
        """Does again what was taken back last: returns the deed, None if there is none."""
        if not self._undone:
            return None
        self._past = self._past + self._undone[-1:]
        self._undone = self._undone[:-1]
        return self._past[-1][0]

    def copy(self):
        """Returns another inn, the same, with deeds and what can be done again, that goes on by itself."""
        return inn_of(self._past, self._undone)

    def at(self, number):
        """Returns an inn as this one was behind so many deeds, with these, none to be done again."""
        if not is_number_below(number, len(self._past)):
            raise NoCount(number)
        return inn_of(self._past[:number + 1], [])

    def trial(self, work):
        """Calls a function with this inn, and returns what it returns; behind it all is as ahead."""
        past, undone = self._past, self._undone
        try:
            return work(self)
        finally:
            self._past, self._undone = past, undone


def inn_of(past, undone):
    """Returns an inn with the pairs of deeds and states of another one, and those that can be done again."""
    inn = Inn("a")
    inn._past = list(past)
    inn._undone = list(undone)
    return inn


def new_inn(state):
    """Returns an inn with a state, no deed done."""
    return inn_of([(None, state)], [])
