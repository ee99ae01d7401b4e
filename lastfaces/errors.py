"""All errors of the package: each is a class of its own right beneath FaceError.

DOC.md says where each is raised. An error keeps the very objects that it is made with.
"""

class FaceError(ValueError):
    """Something that was asked of the package cannot be told or done."""

class BadAnswer(FaceError):
    def __init__(self, thing):
        self.thing = thing

class BadAround(FaceError):
    def __init__(self, thing):
        self.thing = thing

class BadAsker(FaceError):
    def __init__(self, thing):
        self.thing = thing

class BadChutes(FaceError):
    def __init__(self, index):
        self.index = index

class BadClaim(FaceError):
    def __init__(self, thing):
        self.thing = thing

class BadClaims(FaceError):
    def __init__(self, index):
        self.index = index

class BadDeed(FaceError):
    def __init__(self, thing):
        self.thing = thing

class BadDoors(FaceError):
    def __init__(self, index):
        self.index = index

class BadDues(FaceError):
    def __init__(self, thing):
        self.thing = thing

class BadFloors(FaceError):
    def __init__(self, index):
        self.index = index

class BadGates(FaceError):
    def __init__(self, index):
        self.index = index

class BadGiven(FaceError):
    def __init__(self, thing):
        self.thing = thing

class BadGuesses(FaceError):
    def __init__(self, thing):
        self.thing = thing

class BadInn(FaceError):
    def __init__(self, thing):
        self.thing = thing

class BadKeeper(FaceError):
    def __init__(self, thing):
        self.thing = thing

class BadKept(FaceError):
    def __init__(self, thing):
        self.thing = thing

class BadLandings(FaceError):
    def __init__(self, index):
        self.index = index

class BadLists(FaceError):
    def __init__(self, thing):
        self.thing = thing

class BadLooker(FaceError):
    def __init__(self, thing):
        self.thing = thing

class BadMany(FaceError):
    def __init__(self, many):
        self.many = many

class BadMap(FaceError):
    def __init__(self, thing):
        self.thing = thing

class BadName(FaceError):
    def __init__(self, thing):
        self.thing = thing

class BadNames(FaceError):
    def __init__(self, thing):
        self.thing = thing

class BadNumber(FaceError):
    def __init__(self, thing):
        self.thing = thing

class BadOrder(FaceError):
    def __init__(self, index):
        self.index = index

class BadPeople(FaceError):
    def __init__(self, index):
        self.index = index

class BadPerson(FaceError):
    def __init__(self, thing):
        self.thing = thing

class BadPiece(FaceError):
    def __init__(self, thing):
        self.thing = thing

class BadPlacing(FaceError):
    def __init__(self, thing):
        self.thing = thing

class BadQuestion(FaceError):
    def __init__(self, thing):
        self.thing = thing

class BadRooms(FaceError):
    def __init__(self, index):
        self.index = index

class BadRow(FaceError):
    def __init__(self, index):
        self.index = index

class BadRows(FaceError):
    def __init__(self, thing):
        self.thing = thing

class BadSeen(FaceError):
    def __init__(self, thing):
        self.thing = thing

class BadShy(FaceError):
    def __init__(self, thing):
        self.thing = thing

class BadSome(FaceError):
    def __init__(self, index):
        self.index = index

class BadStart(FaceError):
    def __init__(self, thing):
        self.thing = thing

class BadSteps(FaceError):
    def __init__(self, index):
        self.index = index

class BadText(FaceError):
    def __init__(self, line):
        self.line = line

class BadTurns(FaceError):
    def __init__(self, index):
        self.index = index

class BadWishes(FaceError):
    def __init__(self, index):
        self.index = index

class CanBeTold(FaceError):
    pass

class CommonPerson(FaceError):
    def __init__(self, name):
        self.name = name

class CommonRoom(FaceError):
    def __init__(self, name):
        self.name = name

class Crowded(FaceError):
    def __init__(self, room):
        self.room = room

class HasRing(FaceError):
    pass

class InUse(FaceError):
    def __init__(self, question):
        self.question = question

class IsDoor(FaceError):
    def __init__(self, one, other):
        self.one = one
        self.other = other

class IsEnough(FaceError):
    pass

class IsShown(FaceError):
    def __init__(self, room):
        self.room = room

class IsWatched(FaceError):
    def __init__(self, question):
        self.question = question

class LastRoom(FaceError):
    pass

class NoCount(FaceError):
    def __init__(self, thing):
        self.thing = thing

class NoDoor(FaceError):
    def __init__(self, one, other):
        self.one = one
        self.other = other

class NoPerson(FaceError):
    def __init__(self, thing):
        self.thing = thing

class NoRoom(FaceError):
    def __init__(self, thing):
        self.thing = thing

class NoSteps(FaceError):
    pass

class NoTree(FaceError):
    pass

class NoTruth(FaceError):
    def __init__(self, thing):
        self.thing = thing

class NoWalks(FaceError):
    def __init__(self, why):
        self.why = why

class NoneGoes(FaceError):
    def __init__(self, people):
        self.people = people

class NoneLeft(FaceError):
    pass

class NotBeside(FaceError):
    def __init__(self, room):
        self.room = room

class NotFull(FaceError):
    def __init__(self, room):
        self.room = room

class NotGoing(FaceError):
    def __init__(self, thing):
        self.thing = thing

class NotLeaf(FaceError):
    def __init__(self, name):
        self.name = name

class NotLeft(FaceError):
    def __init__(self, thing):
        self.thing = thing

class NotOneGate(FaceError):
    pass

class NotPlaced(FaceError):
    def __init__(self, thing):
        self.thing = thing

class NotSeen(FaceError):
    def __init__(self, room):
        self.room = room

class NotShown(FaceError):
    def __init__(self, person):
        self.person = person

class NotWatched(FaceError):
    def __init__(self, question):
        self.question = question

class Occupied(FaceError):
    def __init__(self, room):
        self.room = room

class OtherPeople(FaceError):
    def __init__(self, person):
        self.person = person

class RoomTaken(FaceError):
    def __init__(self, name):
        self.name = name

class SameRoom(FaceError):
    def __init__(self, room):
        self.room = room

class ShowsNobody(FaceError):
    def __init__(self, room):
        self.room = room

class TakenPerson(FaceError):
    def __init__(self, person):
        self.person = person

class TakenRoom(FaceError):
    def __init__(self, room):
        self.room = room

class UnlikeGates(FaceError):
    pass

class UnlikePeople(FaceError):
    pass

class UnlikeRooms(FaceError):
    def __init__(self, room):
        self.room = room

class WouldChange(FaceError):
    def __init__(self, question):
        self.question = question
