"""Points [79] and [80], and what [85] says of them."""

import itertools
import random
import unittest

import plain
import plainpieces
from plainpieces import all_given, drawn_pieces, goes_set_in, made, plain_told
from lastfaces import errors, parting
from lastfaces.houses import House
from lastfaces.parting import alike_pieces, is_parting, parting_house, set_in
from lastfaces.pieces import Piece
from lastfaces.therule import goes_with

GH = House(["h", "g"], [("g", "h")])
SMALL = Piece(GH, ["g"], {"p": "h"}, {"g": "x", "h": "p"})
OTHER = Piece(GH, ["g"], {"p": "h"}, {"g": "p", "h": "p"})
AROUND = (House(["z"], []), {"x": "z"}, {"z": "x"}, [("g", "z")])
CALLS = [alike_pieces, parting_house, lambda one, other: is_parting(one, other, None)]


def changed(case, chance):
    """A piece with the same gates and people that is like another one but for one thing."""
    rooms, doors, gates, placing, faces = case
    kind = chance.choice(["face", "face", "door", "room", "wall", "swap"])
    free = [room for room in rooms if room not in placing.values()]
    if kind == "face" and free:
        faces = {**faces, chance.choice(free): chance.choice([None, "x", "y", "p"])}
    if kind == "door" and len(rooms) > 1:
        door = tuple(chance.sample(rooms, 2))
        if door not in doors and door[::-1] not in doors:
            doors = doors + [door]
    if kind == "wall" and doors:
        gone = chance.choice(doors)
        doors = [door for door in doors if door != gone]
    if kind == "room":
        more = f"more{len(rooms)}"
        doors = doors + [(more, chance.choice(rooms))]
        rooms, faces = rooms + [more], {**faces, more: chance.choice([None, "x", "p"])}
    if kind == "swap" and len(placing) == 2:
        one, other = placing.values()
        faces = {**faces, one: "p", other: "q"}
        placing = {"p": one, "q": other}
    return rooms, doors, gates, placing, faces


def drawn_pairs(many, seed):
    """Pairs of drawn pieces with the same gates and people, most of them much alike."""
    chance = random.Random(seed)
    for case in drawn_pieces(many, seed):
        other = changed(case, chance)
        for _ in range(chance.choice([0, 0, 1, 2])):
            other = changed(other, chance)
        yield (case, other) if chance.random() < 0.5 else (other, case)


def plain_around(told):
    house, placing, faces, doors = told
    return (house.rooms(), house.doors()), placing, faces, doors


def are_alike(one, other, names):
    """By all that could be given that names some of these: whether the same is seen and whole, or both never are."""
    told = [[plain_told(case, given) for given in all_given(case[2], names)] for case in (one, other)]
    return told[0] == told[1] or not any(whole for seen, whole in told[0] + told[1])


def given_key(given, names):
    """What is given, new people being told by no name."""
    lists = sorted({tuple(sorted(people)) for people in given.values()})
    return tuple(sorted((tuple(sorted(gate for gate in given if tuple(sorted(given[gate])) == people)),
                         tuple(name for name in people if name in names)) for people in lists))


def larger_piece(chance):
    """A drawn piece of two gates or three that is whole if some come in."""
    rooms, doors = plain.drawn_house(chance.randint(5, 8), chance.randint(8, 10), chance)
    doors = chance.sample(doors, len(doors) - chance.randint(0, 3))
    gates = chance.sample(rooms, chance.choice([2, 3]))
    free = [room for room in rooms if room not in gates] + chance.sample(gates, 1)
    placing = dict(zip(["p", "q"], chance.sample(free, 2)))
    coming = dict(zip(["x", "y"], [gate for gate in gates if gate not in placing.values()]))
    return rooms, doors, gates, placing, plain.grown_map(rooms, doors, {**placing, **coming}, chance)


class TestAlike(plain.Checks):
    def test_all_that_could_be_given(self):
        """Just one: the same is seen and whole, or both are never whole; or there is a parting house."""
        found = set()
        for one, other in drawn_pairs(500, 1):
            names = [name for name in ["x", "y", "p", "q"]
                     if name not in one[3] and name in [*one[4].values(), *other[4].values()]]
            if len(names) < 3 and len(one[2]) < 3:
                new = ["v", "w"][:max(1, len(one[2]))]
                alike = are_alike(one, other, names + new)
                self.assertIs(alike_pieces(made(one), made(other)), alike)
                told = parting_house(made(one), made(other))
                self.assertEqual(told is None, alike)
                if not alike:
                    self.judge(one, other, told)
                found.add((alike, len(one[2])))
        self.assertEqual(found, {(alike, many) for alike in (True, False) for many in range(3)})

    def judge(self, one, other, told):
        """Asserts that something around parts two pieces."""
        self.assertEqual([type(told), type(told[0]), type(told[3])], [tuple, House, list])
        self.assertTrue(all(type(door) is tuple for door in told[3]))
        self.ascends(told[1:3])
        self.assertIs(is_parting(made(one), made(other), told), True)
        self.assertNotEqual(goes_set_in(one, plain_around(told)), goes_set_in(other, plain_around(told)))
        self.assertFalse(set(told[1]) & set(one[3]))
        self.assertEqual(sorted(gate for gate, _ in told[3]), sorted(one[2]))
        self.assertFalse(set(told[0].rooms()) & set(one[0] + other[0]))

    def test_three_gates(self):
        found = set()
        for one, other in drawn_pairs(1200, 2):
            if len(one[2]) == 3:
                alike = alike_pieces(made(one), made(other))
                names = [name for name in ["x", "y"] if name in [*one[4].values(), *other[4].values()]]
                if alike and len(names) < 2:
                    self.assertIs(are_alike(one, other, names + ["w"]), True)
                if not alike:
                    self.judge(one, other, parting_house(made(one), made(other)))
                found.add(alike)
        self.assertEqual(found, {True, False})

    def test_all_that_could_be_around(self):
        """Set in to whatever is around, with a room or two, both maps of pieces that are alike go, or neither does."""
        many = {True: 0, False: 0}
        for one, other in drawn_pairs(260, 3):
            if one == other or len(one[2]) > 2:
                continue
            alike = alike_pieces(made(one), made(other))
            if many[alike] < 25:
                many[alike] += 1
                parted = False
                for size in (1, 2):
                    for around in plainpieces.all_around(one[2], size, ["x", "w"], [None, "x", "w", "p"]):
                        around_house = (House(*around[0]), *around[1:])
                        goes = [goes_with(*set_in(made(case), around_house)) for case in (one, other)]
                        parted = parted or goes[0] != goes[1]
                        if alike:
                            self.assertEqual(*goes)
        self.assertEqual(many, {True: 25, False: 25})

    def test_what_is_given_to_know(self):
        """Of all that could be given just what differs by more than new people beside others, or by their names."""
        for gates, names in [([], []), (["a"], ["x"]), (["a", "b"], []), (["a", "b"], ["x", "y"]),
                             (["a", "b", "c"], ["x"])]:
            told = [given_key(given, names) for given in parting.all_given(gates, names, ["p"])]
            self.assertEqual(len(told), len(set(told)))
            new = ["v", "w", "u"][:max(1, len(gates))]
            self.assertEqual(set(told), {given_key(given, names) for given in all_given(gates, names + new)})
        for given in parting.all_given(["a", "b", "c"], ["n0", "x"], ["n1"]):
            self.assertNotIn("n1", [person for people in given.values() for person in people])

    def test_only_new_people_know(self):
        # p and q are joined by who is shown nowhere, at two gates; the third gate's room is beside them by then.
        rooms, doors = ["g", "h", "k", "m"], [("h", "k"), ("h", "m")]
        placing, faces = {"p": "g", "q": "h"}, {"g": "p", "h": "q", "k": "p", "m": None}
        one = rooms, doors, ["g", "h", "k"], placing, faces
        other = rooms, doors, ["g", "h", "k"], placing, {**faces, "k": None, "m": "p"}
        self.assertIs(alike_pieces(made(one), made(other)), False)
        self.judge(one, other, parting_house(made(one), made(other)))

    def test_larger(self):
        chance = random.Random(8)
        found = []
        for index in range(700):
            case = larger_piece(chance)
            other = changed(case, chance)
            alike = alike_pieces(made(case), made(other))
            told = parting_house(made(case), made(other))
            self.assertEqual(told is None, alike)
            if not alike:
                self.judge(case, other, told)
            found.append(alike)
        self.assertGreater(found.count(True), 80)
        self.assertGreater(found.count(False), 80)

    def test_plain_cases(self):
        self.assertIs(alike_pieces(SMALL, SMALL), True)
        self.assertIsNone(parting_house(SMALL, SMALL))
        self.assertIs(alike_pieces(SMALL, OTHER), False)
        # The names of the rooms within do not matter, nor do rooms that nothing comes to.
        longer = Piece(House(["g", "k", "z"], [("g", "k")]), ["g"], {"p": "k"}, {"g": "x", "k": "p", "z": None})
        self.assertIs(alike_pieces(SMALL, longer), True)
        never = Piece(House(["g", "k", "z"], [("g", "k")]), ["g"], {"p": "k"}, {"g": "x", "k": "p", "z": "y"})
        self.assertIs(alike_pieces(SMALL, never), False)
        self.assertIs(alike_pieces(never, Piece(GH, ["g"], {"p": "g"}, {"g": "p", "h": "w"})), False)
        self.assertIs(alike_pieces(never, Piece(House(["g", "h"], []), ["g"], {"p": "g"}, {"g": "p", "h": "w"})), True)

    def test_without_gates(self):
        whole = Piece(GH, [], {"p": "h"}, {"g": "p", "h": "p"})
        broken = Piece(GH, [], {"p": "h"}, {"g": "x", "h": "p"})
        self.assertIs(alike_pieces(whole, broken), False)
        told = parting_house(broken, whole)
        self.assertEqual(told[3], [])
        self.assertIs(is_parting(broken, whole, told), True)
        self.assertIs(alike_pieces(broken, Piece(GH, [], {"p": "g"}, {"g": "p", "h": "y"})), True)
        self.assertIs(alike_pieces(whole, Piece(GH, [], {"p": "g"}, {"g": "p", "h": None})), True)
        self.assertIs(is_parting(whole, broken, (House(["z"], []), {}, {"z": None}, ())), True)
        self.assertIs(is_parting(whole, broken, (House(["z"], []), {}, {"z": "y"}, ())), False)

    def test_names_like_new_ones(self):
        # Rooms and people with the names that the program could take for new ones.
        house = House(["n0", "n1", "n2"], [("n0", "n1"), ("n1", "n2")])
        cases = [(house.rooms(), house.doors(), ["n0", "n2"], {"n1": "n1"}, {"n0": one, "n1": "n1", "n2": other})
                 for one in ("n0", "n1", "n2", None) for other in ("n0", "n2", None)]
        for one, other in itertools.product(cases, repeat=2):
            names = sorted({name for case in (one, other) for name in case[4].values() if name} - {"n1"})
            alike = are_alike(one, other, names + ["w"])
            self.assertIs(alike_pieces(made(one), made(other)), alike)
            if not alike:
                self.judge(one, other, parting_house(made(one), made(other)))

    def test_errors_in_order(self):
        for call in CALLS:
            for thing in plain.odd_things() + [GH, AROUND]:
                self.raises((errors.BadPiece, thing), call, thing, None)
                self.raises((errors.BadPiece, thing), call, SMALL, thing)
            self.raises((errors.UnlikeGates,), call, SMALL, Piece(GH, [], {}, {"g": None, "h": None}))
            self.raises((errors.UnlikeGates,), call, SMALL, Piece(GH, ["h"], {"p": "h"}, {"g": "x", "h": "p"}))
            self.raises((errors.UnlikePeople,), call, SMALL, Piece(GH, ["g"], {}, {"g": None, "h": None}))
            self.raises((errors.UnlikePeople,), call, SMALL, Piece(GH, ["g"], {"x": "g"}, {"g": "x", "h": None}))


class TestIsParting(plain.Checks):
    def test_around(self):
        # x comes by the gate: SMALL is whole then, p and x being one; OTHER is whole as ever.
        self.assertIs(is_parting(SMALL, OTHER, AROUND), False)
        self.assertIs(is_parting(SMALL, OTHER, (House(["z"], []), {}, {"z": None}, [("g", "z")])), True)
        self.assertIs(is_parting(OTHER, SMALL, [House(["z"], []), {}, {"z": "p"}, (["g", "z"],)]), True)
        self.assertIs(is_parting(OTHER, SMALL, [House(["z"], []), {"y": "z"}, {"z": "y"}, (["g", "z"],)]), True)

    def test_what_could_not_be_around(self):
        bare = House(["z"], [])
        for thing in [(bare, {}, {"z": None}), (bare, {}, {"z": None}, []), (bare, {}, {"z": None}, [("z", "g")]),
                      (bare, {}, {"z": None}, [("g", "z"), ("g", "z")]), (bare, {}, {"z": None}, [("h", "z")]),
                      (bare, {"p": "z"}, {"z": "p"}, [("g", "z")]), (bare, {"x": "g"}, {"z": "x"}, [("g", "z")]),
                      (bare, {}, {}, [("g", "z")]), (bare, {}, {"z": None, "g": None}, [("g", "z")]),
                      (House(["h"], []), {}, {"h": None}, [("g", "h")]), (bare, {}, {"z": None}, [("g", "h")]),
                      (bare, {}, {"z": None}, {"g": "z"}), (bare, {}, {"z": None}, None), (bare, {}, {"z": 1}, "gz"),
                      (bare, {}, {"z": None}, [("g", "z", "z")]), (["z"], {}, {"z": None}, [("g", "z")]),
                      (bare, {}, {"z": None}, [("g", "z")], None), *plain.odd_things()]:
            self.assertIs(is_parting(SMALL, OTHER, thing), False)
            self.raises((errors.BadAround, thing), set_in, SMALL, thing)
        # A room of one of both alone is none that could be around, though the other one could be set in to it.
        longer = Piece(House(["g", "z"], [("g", "z")]), ["g"], {"p": "z"}, {"g": "x", "z": "p"})
        thing = (bare, {}, {"z": None}, [("g", "z")])
        self.assertIs(is_parting(OTHER, longer, thing), False)
        self.assertIs(is_parting(longer, OTHER, thing), False)
        self.raises((errors.BadAround, thing), set_in, longer, thing)

    def test_any_objects_within(self):
        bare = House(["z"], [])
        for thing in plain.odd_things():
            self.assertIs(is_parting(SMALL, OTHER, (thing, {}, {"z": None}, [("g", "z")])), False)
            self.assertIs(is_parting(SMALL, OTHER, (bare, {}, thing, [("g", "z")])), False)
            self.assertIs(is_parting(SMALL, OTHER, (bare, {}, {"z": None}, thing)), False)
            self.assertIs(is_parting(SMALL, OTHER, (bare, {}, {"z": None}, [thing])), False)
            self.assertIs(is_parting(SMALL, OTHER, (bare, {}, {"z": None}, [("g", thing)])), False)
            self.assertIs(is_parting(SMALL, OTHER, (bare, {}, {"z": None}, [(thing, "z")])), False)
            if thing != {}:
                self.assertIs(is_parting(SMALL, OTHER, (bare, thing, {"z": None}, [("g", "z")])), False)


class TestSetIn(plain.Checks):
    def test_told(self):
        house, placing, faces = set_in(SMALL, AROUND)
        self.assertEqual(house, House(["g", "h", "z"], [("g", "h"), ("g", "z")]))
        self.assertEqual(list(placing.items()), [("p", "h"), ("x", "z")])
        self.assertEqual(list(faces.items()), [("g", "x"), ("h", "p"), ("z", "x")])
        self.assertIs(type(set_in(SMALL, AROUND)), tuple)
        two = Piece(GH, ["g", "h"], {"x": "h"}, {"g": None, "h": "x"})
        around = (House(["f", "a"], []), {"a": "a"}, {"f": "y", "a": "b"}, [("h", "a"), ("g", "a")])
        house, placing, faces = set_in(two, around)
        self.assertEqual(house, House(["a", "f", "g", "h"], [("g", "h"), ("a", "h"), ("a", "g")]))
        self.assertEqual(list(placing.items()), [("a", "a"), ("x", "h")])
        self.assertEqual(list(faces.items()), [("a", "b"), ("f", "y"), ("g", None), ("h", "x")])

    def test_bad_piece_first(self):
        for thing in plain.odd_things():
            self.raises((errors.BadPiece, thing), set_in, thing, None)

    def test_told_by_parting_house(self):
        for one, other in drawn_pairs(60, 5):
            told = parting_house(made(one), made(other))
            if told is not None:
                for case in (one, other):
                    (rooms, doors), placing, faces = plainpieces.set_in_plain(case, plain_around(told))
                    self.assertEqual(set_in(made(case), told), (House(rooms, doors), placing, faces))


class TestLimits(plain.Checks):
    def test_thirty_rooms(self):
        chance = random.Random(6)
        found = set()
        for many, only in [(29, ["x", "y", "z"]), (34, ["x", "y", "z"]), (45, ["x", "y", "z", "w"])]:
            rooms, doors = plain.drawn_house(30, many, chance)
            gates = chance.sample(rooms, 3)
            names = [f"p{k}" for k in range(5)]
            placing = dict(zip(names, chance.sample([room for room in rooms if room not in gates], 5)))
            faces = plain.grown_map(rooms, doors, {**placing, **dict(zip(only, gates))}, chance)
            one = rooms, doors, gates, placing, faces
            renamed = {room: room if room in gates else room.replace("r", "s") for room in rooms}
            same = ([renamed[room] for room in rooms], [(renamed[a], renamed[b]) for a, b in doors], gates,
                    {person: renamed[room] for person, room in placing.items()},
                    {renamed[room]: face for room, face in faces.items()})
            self.assertIs(alike_pieces(made(one), made(same)), True)
            free = [room for room in rooms if room not in placing.values() and faces[room] in only]
            for room in free[:3]:
                other = rooms, doors, gates, placing, {**faces, room: None}
                told = parting_house(made(one), made(other))
                found.add(told is None)
                if told is not None:
                    self.assertIs(is_parting(made(one), made(other), told), True)
        self.assertEqual(found, {True, False})


if __name__ == "__main__":
    unittest.main()
