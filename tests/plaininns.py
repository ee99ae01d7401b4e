"""A plain book of what was done in an inn, to hold the program against: all is reckoned anew from the deeds."""

import plain
from lastfaces import errors
from lastfaces.things import is_name

KINDS = {"build": 3, "door": 3, "wall": 3, "pull": 2, "come": 3, "go": 3, "wipe": 2, "paint": 3, "watch": 2, "hold": 2,
         "free": 2}


class Book:
    """What is so behind a row of deeds that can be done."""

    def __init__(self, room, deeds):
        self.rooms, self.doors, self.where = [room], [], {}
        self.last = {room: None}
        self.watched = []
        for deed in deeds:
            self.done(*deed)

    def done(self, kind, *parts):
        one, other = (*parts, None)[:2]
        if kind == "build":
            self.rooms.append(one)
            self.last[one] = None
            self.doors.append(tuple(sorted([one, other])))
        if kind == "door":
            self.doors.append(tuple(sorted(parts)))
        if kind == "wall":
            self.doors.remove(tuple(sorted(parts)))
        if kind == "pull":
            self.rooms.remove(one)
            self.doors = [door for door in self.doors if one not in door]
        if kind == "go":
            self.last[self.where[one]] = one
        if kind in ("come", "go"):
            self.where[one] = other
        if kind in ("wipe", "paint"):
            self.last[one] = other
        if kind == "watch":
            self.watched.append((one, False))
        if kind == "hold":
            if one in dict(self.watched):
                self.watched = [(told, held or told == one) for told, held in self.watched]
            else:
                self.watched.append((one, True))
        if kind == "free":
            self.watched = [pair for pair in self.watched if pair[0] != one]

    def faces(self):
        told = {}
        for room in sorted(self.rooms):
            people = sorted(person for person in self.where if self.where[person] == room)
            told[room] = people[0] if people else self.last[room]
        return told

    def is_question(self, thing):
        if not isinstance(thing, (list, tuple)):
            return False
        thing = list(thing)
        if len(thing) == 1:
            return thing[0] in ["alone", "can", "lots", "left"]
        if len(thing) != 2 or not isinstance(thing[1], str):
            return False
        if thing[0] == "shows":
            return thing[1] in self.rooms
        return thing[0] in ["reach", "seen"] and thing[1] in self.where

    def answer(self, question):
        faces = self.faces()
        alone = len(set(self.where.values())) == len(self.where)
        if question[0] == "alone":
            return alone
        if question[0] == "seen":
            return sum(face == question[1] for face in faces.values())
        if question[0] == "shows":
            return faces[question[1]]
        if not self.where or not alone:
            return None
        taken = plain.plain_closure(self.doors, self.where, faces)
        lots = plain.plain_lots(self.doors, self.where, taken)
        if question[0] == "can":
            return plain.plain_goes(self.doors, self.where, faces)
        if question[0] == "lots":
            return len(lots)
        if question[0] == "left":
            return sum(face is not None and room not in taken for room, face in faces.items())
        return sum(len(rooms) for people, rooms in lots if question[1] in people)

    def goes_with(self, room, face):
        return plain.plain_goes(self.doors, self.where, {**self.faces(), room: face})

    def near(self, room):
        return plain.near(self.doors, room)

    def fault(self, deed):
        """The first error of a deed, as a list of its class and what it keeps, but those that look behind it."""
        if not isinstance(deed, (list, tuple)) or not deed or not isinstance(deed[0], str) or deed[0] not in KINDS:
            return [errors.BadDeed, deed]
        kind, *parts = deed
        asks = kind in ("watch", "hold", "free")
        if len(deed) != KINDS[kind] or not asks and not all(is_name(part) for part in parts):
            return [errors.BadDeed, deed]
        if asks:
            return self.question_fault(kind, parts[0])
        faults = []
        if kind == "build":
            faults += [(parts[0] in self.rooms, errors.RoomTaken, parts[0]), self.no_room(parts[1])]
        if kind == "come":
            faults += [(parts[0] in self.where, errors.TakenPerson, parts[0]), self.no_room(parts[1])]
        if kind in ("door", "wall"):
            faults += [self.no_room(parts[0]), self.no_room(parts[1])]
        if kind in ("pull", "wipe", "paint"):
            faults += [self.no_room(parts[0])]
        if kind == "paint":
            faults += [(parts[1] not in self.where, errors.NoPerson, parts[1])]
        if kind == "go":
            faults += [(parts[0] not in self.where, errors.NoPerson, parts[0]), self.no_room(parts[1])]
        for wrong, *error in faults:
            if wrong:
                return error
        return self.later_fault(kind, *parts)

    def no_room(self, thing):
        return thing not in self.rooms, errors.NoRoom, thing

    def later_fault(self, kind, one, other=None):
        faults = []
        if kind == "door":
            faults += [(one == other, errors.SameRoom, one), (other in self.near(one), errors.IsDoor, one, other)]
        if kind == "wall":
            faults += [(other not in self.near(one), errors.NoDoor, one, other)]
        if kind == "go":
            faults += [(other not in self.near(self.where[one]), errors.NotBeside, other)]
        if kind == "pull":
            faults += [(len(self.rooms) == 1, errors.LastRoom), (len(self.near(one)) > 1, errors.NotLeaf, one)]
        if kind in ("pull", "wipe", "paint"):
            faults += [(one in self.where.values(), errors.Occupied, one)]
        if kind == "pull":
            faults += [(self.last[one] is not None, errors.IsShown, one)]
        if kind == "wipe":
            faults += [(self.last[one] is None, errors.ShowsNobody, one)]
        for wrong, *error in faults:
            if wrong:
                return error
        return None

    def question_fault(self, kind, question):
        if not self.is_question(question):
            return [errors.BadQuestion, question]
        question = tuple(question)
        held = dict(self.watched).get(question)
        if held is None:
            return [errors.NotWatched, question] if kind == "free" else None
        if kind == "watch" or kind == "hold" and held:
            return [errors.IsWatched, question]
        return None


def kept(deed):
    """A deed as it is kept."""
    if deed[0] in ("watch", "hold", "free"):
        return deed[0], tuple(deed[1])
    return tuple(deed)


def outcome(room, deeds, deed, barred=True):
    """What a deed returns behind others, or its error: a pair (error, told), one of them None."""
    ahead = Book(room, deeds)
    error = ahead.fault(deed)
    if error is not None:
        return error, None
    behind = Book(room, deeds + [kept(deed)])
    for question, _ in ahead.watched:
        if not behind.is_question(question):
            return [errors.InUse, question], None
    told = [(question, ahead.answer(question), behind.answer(question)) for question, _ in ahead.watched]
    told = [triple for triple in told if triple[1] != triple[2]]
    for question, _, _ in told:
        if barred and dict(ahead.watched)[question]:
            return [errors.WouldChange, question], None
    return None, told
