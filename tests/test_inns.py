"""Points [113] to [119], and what [121] says of them."""

import random
import unittest

import plain
from plaininns import KINDS, Book, kept, outcome
from lastfaces import errors
from lastfaces.houses import House
from lastfaces.inns import Inn
from lastfaces.pieces import Piece

BUILT = [("build", "b", "a"), ("build", "c", "b"), ("build", "d", "c"), ("door", "d", "a")]
LIVED = BUILT + [("come", "x", "a"), ("come", "y", "c"), ("go", "x", "b"), ("go", "y", "b"), ("go", "x", "c")]
ROOMS, PEOPLE = ["a", "b", "c", "d", "e", "f"], ["x", "y", "z", "w"]


def inn_with(deeds, room="a"):
    inn = Inn(room)
    for deed in deeds:
        inn.do(deed)
    return inn


def drawn_question(chance, book):
    kind = chance.choice(["alone", "can", "can", "lots", "left", "reach", "seen", "shows"])
    if kind in ("reach", "seen"):
        return kind, chance.choice([*book.where, chance.choice(PEOPLE)])
    return (kind, chance.choice([*book.rooms, chance.choice(ROOMS)])) if kind == "shows" else (kind,)


def drawn_deed(chance, book):
    """A deed that can often be done."""
    kind = chance.choice([*KINDS, "go", "go", "go", "paint", "come", "build", "door"])
    room, other = chance.choice(book.rooms), chance.choice(ROOMS)
    person = chance.choice([*book.where, chance.choice(PEOPLE)])
    if kind == "build":
        return kind, chance.choice(ROOMS), room
    if kind in ("door", "wall"):
        return (kind, *chance.choice([*book.doors, (room, other), (room, other)]))
    if kind == "come":
        return kind, chance.choice(PEOPLE), room
    if kind == "go":
        beside = book.near(book.where[person]) if person in book.where else []
        return kind, person, chance.choice([*beside, *beside, other])
    if kind == "paint":
        return kind, chance.choice([room, other]), person
    if kind in ("pull", "wipe"):
        return kind, chance.choice([room, other])
    return kind, drawn_question(chance, book)


class Held(plain.Checks):
    def hold_against(self, inn, room, deeds):
        """Asserts that all that an inn tells is as a plain book has it."""
        book = Book(room, deeds)
        self.assertEqual(inn.now(), House(book.rooms, book.doors))
        self.assertEqual((inn.where(), inn.faces()), (book.where, book.faces()))
        self.ascends([inn.where(), inn.faces()])
        watched = inn.watched()
        self.assertEqual(watched, [(told, book.answer(told), held) for told, held in book.watched])
        for told, (question, answer, held) in zip(book.watched, watched):
            self.assertEqual((type(question), type(answer), held), (tuple, type(book.answer(told[0])), told[1]))
        self.assertEqual((inn.deeds(), inn.count()), (deeds, len(deeds)))
        return book

    def rejects(self, error, call, deed):
        """Asserts that a deed has just this error; what is told as a question is equal to a tuple."""
        kind, *told = error
        with self.assertRaises(errors.FaceError) as caught:
            call(deed)
        self.assertIs(type(caught.exception), kind)
        self.assertEqual(list(vars(caught.exception).values()), told)
        if kind in (errors.IsWatched, errors.NotWatched, errors.InUse, errors.WouldChange):
            self.assertIs(type(caught.exception.question), tuple)


class TestExample(Held):
    def test_figures(self):
        inn = inn_with(LIVED)
        self.assertEqual(inn.faces(), {"a": "x", "b": "y", "c": "x", "d": None})
        self.assertIs(inn.answer(("can",)), True)
        self.assertEqual(inn.answer(("lots",)), 1)
        self.assertEqual(inn.could_show("d"), ["x", "y"])
        walled = inn.copy()
        walled.do(("wall", "a", "b"))
        self.assertIs(walled.answer(("can",)), False)
        self.assertEqual((walled.answer(("left",)), walled.mending_rooms()), (1, ["a"]))
        self.assertEqual(walled.could_show("d"), ["x", "y"])
        inn.do(("hold", ("can",)))
        self.raises_question(errors.WouldChange, ("can",), inn, ("wall", "a", "b"))

    def raises_question(self, kind, question, inn, deed):
        self.rejects([kind, question], inn.do, deed)


class TestBegin(Held):
    def test_begin(self):
        inn = Inn("hall")
        self.hold_against(inn, "hall", [])
        self.assertEqual((inn.undo(), inn.again(), inn.mending_rooms(), inn.could_show("hall")), (None, None, [], []))
        for thing in plain.no_names():
            self.raises((errors.BadName, thing), Inn, thing)

    def test_told_new(self):
        inn = inn_with(LIVED + [("watch", ("can",))])
        deeds = list(inn.deeds())
        for told in [inn.where(), inn.faces(), inn.watched(), inn.deeds(), inn.could_show("d")]:
            told.clear()
        inn.do(("go", "x", "d")).clear()
        self.hold_against(inn, "a", deeds + [("go", "x", "d")])

    def test_told_as_tuples(self):
        inn = Inn("a")
        deed, question = ["build", "b", "a"], ["shows", "b"]
        asked = ["watch", question]
        inn.do(deed)
        inn.do(asked)
        deed[1] = question[1] = "spoilt"
        self.assertEqual(inn.deeds(), [("build", "b", "a"), ("watch", ("shows", "b"))])
        self.assertEqual(inn.watched(), [(("shows", "b"), None, False)])
        self.assertEqual([type(told) for told in inn.deeds()] + [type(inn.deeds()[1][1])], [tuple] * 3)
        self.assertEqual((type(inn.undo()), type(inn.again())), (tuple, tuple))
        self.assertEqual(asked, ["watch", ["shows", "spoilt"]])

    def test_equal(self):
        inn = inn_with(LIVED)
        other = inn_with([("build", "d", "a"), ("build", "c", "d"), ("build", "b", "c"), ("door", "a", "b"),
                          ("come", "y", "b"), ("come", "x", "c"), ("paint", "a", "y"), ("paint", "a", "x")])
        self.assertEqual(inn, other)
        self.assertIs(inn != other, False)
        for deeds in [LIVED[:-1], LIVED + [("paint", "d", "x")], LIVED + [("wall", "d", "a")],
                      LIVED + [("come", "z", "b")], LIVED + [("watch", ("can",))], BUILT]:
            self.assertIs(inn == inn_with(deeds), False)
        for one, another, same in [(("watch", ("can",)), ("watch", ["can"]), True),
                                   (("watch", ("can",)), ("hold", ("can",)), False)]:
            self.assertIs(inn_with(LIVED + [one]) == inn_with(LIVED + [another]), same)
        pair = [("watch", ("can",)), ("watch", ("left",))]
        self.assertIs(inn_with(LIVED + pair) == inn_with(LIVED + pair[::-1]), False)
        for thing in plain.odd_things() + [inn.now(), inn.faces(), inn.deeds()]:
            self.assertIs(inn == thing, False)

    def test_several_in_one_room(self):
        inn = inn_with(BUILT[:1] + [("come", "y", "a"), ("come", "x", "a"), ("come", "z", "a")])
        self.assertEqual(inn.faces(), {"a": "x", "b": None})
        inn.do(("go", "x", "b"))
        self.assertEqual(inn.faces(), {"a": "y", "b": "x"})
        inn.do(("go", "z", "b"))
        self.assertEqual(inn.faces(), {"a": "y", "b": "x"})
        inn.do(("go", "y", "b"))
        self.assertEqual(inn.faces(), {"a": "y", "b": "x"})
        self.assertEqual((inn.answer(("alone",)), inn.answer(("can",)), inn.answer(("seen", "x"))), (False, None, 1))


class TestDeeds(Held):
    def test_drawn(self):
        chance = random.Random(1)
        found = {}
        for _ in range(110):
            inn, deeds = Inn("a"), []
            for _ in range(chance.randint(5, 45)):
                deed = drawn_deed(chance, Book("a", deeds))
                deed = chance.choice(plain.both_kinds(deed))
                error, told = outcome("a", deeds, deed)
                free, would = outcome("a", deeds, deed, barred=False)
                if free is None:
                    self.assertEqual(inn.would(deed), would)
                else:
                    self.rejects(free, inn.would, deed)
                if error is None:
                    self.assertEqual(inn.do(deed), told)
                    deeds = deeds + [kept(deed)]
                else:
                    self.rejects(error, inn.do, deed)
                    found[error[0]] = found.get(error[0], 0) + 1
                self.judge_ahead(inn, self.hold_against(inn, "a", deeds))
        self.assertEqual({kind.__name__ for kind in found}, set(
            "RoomTaken TakenPerson NoRoom NoPerson SameRoom IsDoor NoDoor NotBeside LastRoom NotLeaf Occupied IsShown"
            " ShowsNobody BadQuestion IsWatched NotWatched InUse WouldChange".split()))

    def judge_ahead(self, inn, book):
        can = book.answer(("can",))
        faces = book.faces()
        free = [room for room in faces if room not in book.where.values()]
        for room in faces:
            if room in free:
                people = [person for person in sorted(book.where) if can is not None and book.goes_with(room, person)]
                self.assertEqual(inn.could_show(room), people)
            else:
                self.raises((errors.Occupied, room), inn.could_show, room)
        mending = [room for room in free if can is False and faces[room] and book.goes_with(room, None)]
        self.assertEqual(inn.mending_rooms(), mending)

    def test_bad_deeds(self):
        inn = inn_with(LIVED)
        wrong = [("build", "e"), ("build", "e", "a", "b"), ("come",), ("pull", "d", "d"), ("go", 1, "a"), ("watch",),
                 ("watch", ("can",), None), ("Build", "e", "a"), ("go", "x", ["d"]), (["build"], "e", "a"), ("free",),
                 ("come", "X", "a"), ("paint", "d", None), "pull", {"pull": "d"}, ("wipe", ("a",)), (None, "a"),
                 ("door", "a", "")]
        for thing in plain.odd_things() + wrong:
            for call in (inn.do, inn.would):
                self.raises((errors.BadDeed, thing), call, thing)
        for thing in plain.odd_things():
            for deed in [("build", thing, "a"), ["wall", "a", thing], ("paint", thing, "x"), ("come", thing, "a"),
                         ("pull", thing)]:
                if thing != "nowhere":
                    self.raises((errors.BadDeed, deed), inn.do, deed)
            for kind in ("watch", "hold", "free"):
                self.raises((errors.BadQuestion, thing), inn.do, (kind, thing))
        self.hold_against(inn, "a", LIVED)

    def test_order_of_errors(self):
        inn = inn_with(LIVED + [("build", "e", "a"), ("hold", ("shows", "e")), ("watch", ("left",))])
        for error, deed in [
                ((errors.RoomTaken, "b"), ("build", "b", "nowhere")),
                ((errors.TakenPerson, "x"), ("come", "x", "nowhere")),
                ((errors.NoRoom, "r"), ("build", "q", "r")),
                ((errors.NoRoom, "r"), ("door", "r", "s")),
                ((errors.NoRoom, "s"), ("door", "a", "s")),
                ((errors.NoRoom, "r"), ("wall", "r", "r")),
                ((errors.NoPerson, "r"), ("go", "r", "s")),
                ((errors.NoRoom, "s"), ("go", "x", "s")),
                ((errors.NoRoom, "r"), ("paint", "r", "s")),
                ((errors.NoPerson, "s"), ("paint", "b", "s")),
                ((errors.SameRoom, "a"), ("door", "a", "a")),
                ((errors.IsDoor, "d", "a"), ("door", "d", "a")),
                ((errors.NoDoor, "b", "d"), ("wall", "b", "d")),
                ((errors.NoDoor, "a", "a"), ("wall", "a", "a")),
                ((errors.NotBeside, "a"), ("go", "x", "a")),
                ((errors.NotBeside, "c"), ("go", "x", "c")),
                ((errors.NotLeaf, "b"), ("pull", "b")),
                ((errors.Occupied, "b"), ("wipe", "b")),
                ((errors.Occupied, "c"), ("paint", "c", "x")),
                ((errors.ShowsNobody, "d"), ("wipe", "d")),
                ((errors.InUse, ("shows", "e")), ("pull", "e")),
                ((errors.WouldChange, ("shows", "e")), ("paint", "e", "x")),
                ((errors.IsWatched, ("shows", "e")), ("hold", ["shows", "e"])),
                ((errors.IsWatched, ("left",)), ["watch", ["left"]]),
                ((errors.NotWatched, ("can",)), ("free", ["can"]))]:
            self.rejects(error, inn.do, deed)
            if error[0] is not errors.WouldChange:
                self.rejects(error, inn.would, deed)
        self.assertEqual(inn.would(("paint", "e", "x")), [(("shows", "e"), None, "x")])
        lone = Inn("a")
        lone.do(("come", "x", "a"))
        self.rejects((errors.LastRoom,), lone.do, ("pull", "a"))
        leaf = inn_with(BUILT[:1] + [("come", "x", "b")])
        self.rejects((errors.Occupied, "b"), leaf.do, ("pull", "b"))
        leaf.do(("go", "x", "a"))
        self.rejects((errors.IsShown, "b"), leaf.do, ("pull", "b"))

    def test_first_of_the_watched(self):
        inn = inn_with(LIVED + [("build", "e", "a"), ("watch", ("seen", "y")), ("watch", ("shows", "e"))])
        inn.do(("hold", ("seen", "x")))
        self.rejects((errors.WouldChange, ("seen", "x")), inn.do, ("paint", "e", "x"))
        inn.do(("hold", ("shows", "e")))
        self.assertEqual([(told, held) for told, _, held in inn.watched()],
                         [(("seen", "y"), False), (("shows", "e"), True), (("seen", "x"), True)])
        self.rejects((errors.WouldChange, ("shows", "e")), inn.do, ("paint", "e", "x"))
        self.assertEqual(inn.would(("paint", "e", "y")), [(("seen", "y"), 1, 2), (("shows", "e"), None, "y")])
        self.rejects((errors.InUse, ("shows", "e")), inn.do, ("pull", "e"))
        inn.do(("free", ("shows", "e")))
        self.assertEqual([told for told, _, _ in inn.watched()], [("seen", "y"), ("seen", "x")])
        self.assertEqual(inn.do(("pull", "e")), [])

    def test_what_is_kept(self):
        """Where somebody is, nothing was wiped, painted or walled, and each is alone, the faces go."""
        chance = random.Random(2)
        many = 0
        for _ in range(60):
            deeds = []
            for _ in range(30):
                deed = drawn_deed(chance, Book("a", deeds))
                if deed[0] not in ("wipe", "paint", "wall", "watch", "hold", "free"):
                    if outcome("a", deeds, deed)[0] is None:
                        deeds.append(deed)
            inn = inn_with(deeds)
            if inn.where() and inn.answer(("alone",)):
                many += 1
                self.assertIs(inn.answer(("can",)), True)
        self.assertGreater(many, 15)


    def test_what_stays_so(self):
        """Where the faces go they do so behind all deeds but those that wall, wipe or paint, each staying alone."""
        chance = random.Random(5)
        kinds = set()
        for _ in range(80):
            inn, deeds = Inn("a"), []
            for _ in range(35):
                deed = drawn_deed(chance, Book("a", deeds))
                if outcome("a", deeds, deed)[0] is None:
                    can = inn.answer(("can",))
                    inn.do(deed)
                    deeds.append(kept(deed))
                    if can and deed[0] not in ("wall", "wipe", "paint") and inn.answer(("alone",)):
                        kinds.add(deed[0])
                        self.assertIs(inn.answer(("can",)), True)
        self.assertLessEqual({"build", "door", "pull", "come", "go"}, kinds)


class TestQuestions(Held):
    def test_any_objects(self):
        inn = inn_with(LIVED)
        right = [("alone",), ["can"], ("lots",), ["left"], ("reach", "x"), ["seen", "y"], ("shows", "d")]
        for thing in right:
            self.assertIs(inn.is_question(thing), True)
            self.assertEqual(inn.answer(thing), Book("a", LIVED).answer(tuple(thing)))
        wrong = [("can", "x"), ("reach",), ("reach", "a"), ("seen", "z"), ("shows", "x"), ("shows",), ("shows", ["a"]),
                 ("reach", None), ("seen", 1), (["can"],), "can", {"can": 1}, ("shows", "a", "b"), ("can", None),
                 ("Can",), (None, "a"), ("reach", {})]
        for thing in plain.odd_things() + wrong:
            self.assertIs(inn.is_question(thing), False)
            self.raises((errors.BadQuestion, thing), inn.answer, thing)
        empty = Inn("a")
        self.assertEqual([empty.answer((kind,)) for kind in ("alone", "can", "lots", "left")], [True, None, None, None])
        self.assertIs(empty.answer(("shows", "a")), None)
        self.assertIs(empty.is_question(("reach", "x")), False)

    def test_could_show(self):
        inn = inn_with(LIVED)
        for thing in plain.odd_things():
            self.raises((errors.NoRoom, thing), inn.could_show, thing)
        self.raises((errors.Occupied, "b"), inn.could_show, "b")
        crowd = inn_with(LIVED + [("come", "z", "b")])
        self.assertEqual((crowd.could_show("d"), crowd.mending_rooms()), ([], []))
        self.raises((errors.Occupied, "b"), crowd.could_show, "b")
        self.assertEqual(inn_with(BUILT).could_show("d"), [])


class TestBack(Held):
    def test_drawn(self):
        """Deeds taken back and done again, copies, and inns as this one was: none bears on another."""
        chance = random.Random(3)
        for _ in range(50):
            inn, deeds, undone = Inn("a"), [], []
            others = []
            for _ in range(40):
                kind = chance.choice(["do", "do", "do", "undo", "again", "copy", "at", "trial"])
                if kind == "do":
                    deed = drawn_deed(chance, Book("a", deeds))
                    if outcome("a", deeds, deed)[0] is None:
                        inn.do(deed)
                        deeds, undone = deeds + [kept(deed)], []
                if kind == "undo":
                    self.assertEqual(inn.undo(), deeds[-1] if deeds else None)
                    deeds, undone = deeds[:-1], undone + deeds[-1:]
                if kind == "again":
                    self.assertEqual(inn.again(), undone[-1] if undone else None)
                    deeds, undone = deeds + undone[-1:], undone[:-1]
                if kind == "copy":
                    others.append((inn.copy(), list(deeds), list(undone)))
                if kind == "at":
                    number = chance.randint(0, len(deeds))
                    others.append((inn.at(number), deeds[:number], []))
                if kind == "trial":
                    inn.trial(lambda same: self.spoil(same, chance, list(deeds)))
                self.hold_against(inn, "a", deeds)
                if others and chance.random() < 0.5:
                    others.append((inn, deeds, undone))
                    inn, deeds, undone = others.pop(chance.randrange(len(others)))
                    self.hold_against(inn, "a", deeds)
            for other, told, back in others:
                self.hold_against(other, "a", told)
                for deed in reversed(back):
                    self.assertEqual(other.again(), deed)
                self.assertIsNone(other.again())

    def spoil(self, inn, chance, deeds):
        for _ in range(chance.randint(0, 3)):
            self.assertEqual(inn.undo(), deeds.pop() if deeds else None)
        for _ in range(6):
            deed = drawn_deed(chance, Book("a", deeds))
            if outcome("a", deeds, deed)[0] is None:
                inn.do(deed)
                deeds.append(kept(deed))
        self.hold_against(inn, "a", deeds)

    def test_held_bars_nothing(self):
        inn = inn_with(LIVED)
        inn.do(("hold", ("seen", "x")))
        inn.do(("hold", ("can",)))
        self.rejects((errors.WouldChange, ("seen", "x")), inn.do, ("paint", "d", "x"))
        back = [("hold", ("can",)), ("hold", ("seen", "x")), ("go", "x", "c")]
        self.assertEqual([inn.undo() for _ in range(3)], back)
        self.assertEqual(inn.where(), {"x": "b", "y": "b"})
        self.assertEqual([inn.again() for _ in range(4)], back[::-1] + [None])
        self.hold_against(inn, "a", LIVED + [("hold", ("seen", "x")), ("hold", ("can",))])

    def test_a_new_deed_ends_what_can_be_done_again(self):
        inn = inn_with(LIVED)
        inn.undo()
        self.rejects((errors.NotBeside, "d"), inn.do, ("go", "x", "d"))
        self.assertEqual(inn.would(("go", "x", "a")), [])
        self.assertEqual(inn.again(), ("go", "x", "c"))
        inn.undo()
        inn.do(("go", "x", "a"))
        self.assertIsNone(inn.again())

    def test_at(self):
        inn = inn_with(LIVED)
        inn.undo()
        for number in range(len(LIVED)):
            told = inn.at(number)
            self.assertEqual(told, inn_with(LIVED[:number]))
            self.assertEqual((told.deeds(), told.again()), (LIVED[:number], None))
        for thing in plain.odd_things() + [len(LIVED), -1, True]:
            if type(thing) is not int or not 0 <= thing < len(LIVED):
                self.raises((errors.NoCount, thing), inn.at, thing)
        self.assertEqual(inn.again(), LIVED[-1])


class TestTrials(Held):
    def test_told(self):
        inn = inn_with(LIVED)
        thing = []
        self.assertIs(inn.trial(lambda same: thing), thing)
        self.assertIs(inn.trial(lambda same: same), inn)
        self.assertIsNone(inn.trial(lambda same: same.undo() and None))
        self.hold_against(inn, "a", LIVED)

    def test_raising(self):
        inn = inn_with(LIVED)
        inn.undo()

        def work(same):
            same.again()
            same.do(("wall", "a", "b"))
            same.do(("pull", "nowhere"))

        self.raises((errors.NoRoom, "nowhere"), inn.trial, work)
        self.hold_against(inn, "a", LIVED[:-1])
        with self.assertRaises(KeyError):
            inn.trial(lambda same: {}[len(same.do(("wall", "a", "b")))])
        self.hold_against(inn, "a", LIVED[:-1])
        self.assertEqual(inn.again(), LIVED[-1])

    def test_within_one_another(self):
        inn = inn_with(LIVED)

        def work(same, depth):
            same.do(("build", f"r{depth}", "a"))
            if depth < 6:
                told = same.trial(lambda inner: work(inner, depth + 1))
                self.assertEqual(same.count(), len(LIVED) + depth)
                self.assertEqual(told, depth + 1)
            else:
                same.undo()
            return depth

        self.assertEqual(inn.trial(lambda same: work(same, 1)), 1)
        self.hold_against(inn, "a", LIVED)

    def test_copies_made_within_stay(self):
        inn = inn_with(LIVED)
        copies = []

        def work(same):
            same.do(("wall", "a", "b"))
            copies.append(same.copy())
            copies.append(same.at(3))
            return same.would(("door", "a", "b"))

        self.assertEqual(inn.trial(work), [])
        self.hold_against(copies[0], "a", LIVED + [("wall", "a", "b")])
        self.hold_against(copies[1], "a", LIVED[:3])
        self.hold_against(inn, "a", LIVED)


class TestLimits(Held):
    def test_ten_rooms(self):
        chance = random.Random(4)
        inn, deeds = Inn("r0"), []
        for index in range(1, 10):
            deeds.append(("build", f"r{index}", f"r{chance.randrange(index)}"))
        deeds += [("come", f"p{index}", f"r{index}") for index in range(6)]
        deeds += [("watch", (kind,)) for kind in ("alone", "can", "lots", "left")]
        more = [("reach", "p0"), ("seen", "p1"), ("shows", "r9"), ("reach", "p5")]
        deeds += [("watch", question) for question in more]
        for deed in deeds:
            inn.do(deed)
        while inn.count() < 80:
            book = Book("r0", deeds)
            person = chance.choice(list(book.where))
            deed = ("go", person, chance.choice(book.near(book.where[person])))
            self.assertEqual(inn.do(deed), outcome("r0", deeds, deed)[1])
            deeds.append(deed)
        self.hold_against(inn, "r0", deeds)
        self.assertIs(Piece(inn.now(), [], {}, dict.fromkeys(inn.faces())).house() == inn.now(), True)


if __name__ == "__main__":
    unittest.main()
