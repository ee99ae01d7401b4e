"""Deeds in an inn: when they can be done, and what is behind them."""

from lastfaces.errors import BadDeed, BadQuestion, InUse, IsDoor, IsShown, IsWatched, LastRoom, NoPerson
from lastfaces.errors import NotBeside, NotLeaf, NotWatched, Occupied, RoomTaken, SameRoom, ShowsNobody, TakenPerson
from lastfaces.houses import House, beside, check_room, is_room
from lastfaces.innstates import State, answer_of, is_question_now
from lastfaces.otherhouses import built_on, part_of, without_door
from lastfaces.things import is_list, is_name

# By the kinds of deeds: what their parts are, as they stand.
PARTS = {
    "build": ("new", "room"), "door": ("room", "room"), "wall": ("room", "room"), "pull": ("room",),
    "come": ("new", "room"), "go": ("person", "room"), "wipe": ("room",), "paint": ("room", "person"),
    "watch": ("question",), "hold": ("question",), "free": ("question",),
}


def is_deed(thing):
    """Tells of any object whether it is a deed: all parts are names, but a question can be any object."""
    if not is_list(thing) or len(thing) == 0 or not isinstance(thing[0], str) or thing[0] not in PARTS:
        return False
    parts = PARTS[thing[0]]
    if len(thing) != len(parts) + 1:
        return False
    return all([part == "question" or is_name(told) for part, told in zip(parts, thing[1:])])


def check_parts(state, deed):
    """Raises BadDeed, RoomTaken, TakenPerson, NoRoom or NoPerson for a deed with parts that are wrong."""
    if not is_deed(deed):
        raise BadDeed(deed)
    if deed[0] == "build" and is_room(state.house(), deed[1]):
        raise RoomTaken(deed[1])
    if deed[0] == "come" and deed[1] in state.where():
        raise TakenPerson(deed[1])
    for part, told in zip(PARTS[deed[0]], deed[1:]):
        if part == "room":
            check_room(state.house(), told)
        if part == "person" and told not in state.where():
            raise NoPerson(told)


def done(state, deed):
    """Returns the pair of the deed as it is kept, and of the state behind it."""
    check_parts(state, deed)
    kind = deed[0]
    if PARTS[kind] == ("question",):
        return asked(state, kind, deed[1])
    if kind in ("build", "door", "wall", "pull"):
        house = rebuilt(state, *deed)
        behind = State(house, state.where(), state.faces(), state.watched())
    elif kind in ("come", "go"):
        behind = moved(state, *deed)
    else:
        check_free(state, deed[1])
        if kind == "wipe" and state.faces()[deed[1]] is None:
            raise ShowsNobody(deed[1])
        face = deed[2] if kind == "paint" else None
        behind = State(state.house(), state.where(), {**state.faces(), deed[1]: face}, state.watched())
    for question, _ in state.watched():
        if not is_question_now(behind, question):
            raise InUse(question)
    return tuple(deed), behind


def check_free(state, room):
    """Raises Occupied for a room in which somebody is."""
    if not state.is_free(room):
        raise Occupied(room)


def rebuilt(state, kind, one, *rest):
    """Returns the house behind a deed that builds or walls."""
    house = state.house()
    if kind == "build":
        return built_on(house, one, list(rest))
    if kind == "pull":
        check_pull(state, one)
        return part_of(house, [room for room in house.rooms() if room != one])
    other = rest[0]
    if kind == "wall":
        return without_door(house, one, other)
    if one == other:
        raise SameRoom(one)
    if other in beside(house, one):
        raise IsDoor(one, other)
    return House(house.rooms(), house.doors() + [(one, other)])


def check_pull(state, room):
    """Raises LastRoom, NotLeaf, Occupied or IsShown for a room that cannot be pulled down."""
    if len(state.house()) == 1:
        raise LastRoom()
    if len(beside(state.house(), room)) > 1:
        raise NotLeaf(room)
    check_free(state, room)
    if state.faces()[room] is not None:
        raise IsShown(room)


def moved(state, kind, person, room):
    """Returns the state behind a deed by which a person comes, or goes."""
    where, faces = state.where(), state.faces()
    if kind == "go":
        if room not in beside(state.house(), where[person]):
            raise NotBeside(room)
        # If somebody else is left there, this one is shown.
        faces[where[person]] = person
    return State(state.house(), {**where, person: room}, faces, state.watched())


def asked(state, kind, thing):
    """Returns the pair of the deed as it is kept, and of the state behind it, of a deed with a question."""
    if not is_question_now(state, thing):
        raise BadQuestion(thing)
    question = tuple(thing)
    watched = state.watched()
    held = [is_held for told, is_held in watched if told == question]
    if kind == "free" and not held:
        raise NotWatched(question)
    if held and (kind == "watch" or (kind == "hold" and held[0])):
        raise IsWatched(question)
    if kind == "free":
        watched = [pair for pair in watched if pair[0] != question]
    elif held:
        watched = [(told, is_held or told == question) for told, is_held in watched]
    else:
        watched.append((question, kind == "hold"))
    return (kind, question), State(state.house(), state.where(), state.faces(), watched)


def changes_between(ahead, behind):
    """Returns the list of the triples (question, answer ahead, answer behind) that are not the same."""
    told = []
    for question, _ in ahead.watched():
        answers = answer_of(ahead, question), answer_of(behind, question)
        if answers[0] != answers[1]:
            told.append((question, *answers))
    return told
