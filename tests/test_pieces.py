"""Points [75] to [78], and what [85] says of them."""

import itertools
import random
import unittest

import plain
from plainpieces import all_given, drawn_pieces, plain_seen, plain_within
from lastfaces import errors
from lastfaces.houses import House
from lastfaces.pieces import Piece, is_given, is_whole, never_whole, outside_names, seen_at
from lastfaces.therule import last_lots, left_out

GH = House(["h", "g"], [("g", "h")])
SMALL = Piece(GH, ["g"], {"p": "h"}, {"g": "x", "h": "p"})
ROW = House(["a", "b", "c", "d"], [("a", "b"), ("b", "c"), ("c", "d")])
FACES = {"a": "x", "b": "p", "c": "q", "d": "y"}
STOOD = {"q": "c", "p": "b"}
THREE = Piece(ROW, ["d", "a", "b"], STOOD, FACES)


class TestExample(plain.Checks):
    def test_figures(self):
        self.assertEqual(seen_at(SMALL, {}), {"g": []})
        self.assertEqual(seen_at(SMALL, {"g": ["x"]}), {"g": ["p", "x"]})


class TestPiece(plain.Checks):
    def test_told(self):
        self.assertEqual(THREE.house(), ROW)
        self.assertEqual(THREE.gates(), ["a", "b", "d"])
        self.assertEqual(list(THREE.placing().items()), [("p", "b"), ("q", "c")])
        self.assertEqual(list(THREE.faces().items()), sorted(FACES.items()))
        for told in (THREE.gates, THREE.placing, THREE.faces):
            kept = told()
            told().clear()
            self.assertEqual(told(), kept)
        self.assertEqual(outside_names(THREE), ["x", "y"])
        self.assertEqual(outside_names(Piece(ROW, [], {}, FACES)), ["p", "q", "x", "y"])
        self.assertEqual(outside_names(Piece(ROW, [], {}, dict.fromkeys("abcd"))), [])

    def test_copied(self):
        gates, placing, faces = ["d", "a", "b"], dict(STOOD), dict(FACES)
        piece = Piece(ROW, gates, placing, faces)
        gates.pop()
        placing["x"] = "a"
        faces["a"] = None
        self.assertEqual(piece, THREE)

    def test_equal(self):
        again = House(["d", "c", "b", "a"], [["b", "a"], ["d", "c"], ["c", "b"]])
        self.assertEqual(THREE, Piece(again, ("a", "b", "d"), plain.other_order(STOOD), plain.other_order(FACES)))
        for other in [Piece(ROW, ["a", "b"], STOOD, FACES), Piece(ROW, ["a", "b", "d"], {"p": "b"}, FACES), ROW, SMALL,
                      Piece(ROW, ["a", "b", "d"], STOOD, {**FACES, "a": None}), *plain.odd_things(),
                      Piece(House(["a", "b", "c", "d"], []), ["a", "b", "d"], STOOD, FACES)]:
            self.assertIs(THREE == other, False)
            self.assertIs(THREE != other, True)

    def test_errors_in_order(self):
        for thing in plain.no_lists() + ["ab", {"a": 1}]:
            self.raises((errors.BadGates, 0), Piece, ROW, thing, None, None)
        for thing in plain.odd_things() + ["e", ["a"]]:
            self.raises((errors.BadGates, 1), Piece, ROW, ["a", thing, "a"], None, None)
            self.raises((errors.BadMap, thing), Piece, ROW, ["a"], STOOD, thing)
            if thing not in ({}, "e", ["a"]):
                self.raises((errors.BadPlacing, thing), Piece, ROW, ["a"], thing, thing)
        self.raises((errors.BadGates, 2), Piece, ROW, ("a", "b", "a"), {}, {})
        self.raises((errors.NotShown, "p"), Piece, ROW, [], {"q": "a", "p": "c"}, FACES)
        self.raises((errors.NotShown, "q"), Piece, ROW, [], {"q": "a", "p": "b"}, FACES)
        self.raises((errors.NotShown, "x"), Piece, ROW, [], {"x": "a"}, {**FACES, "a": None})

    def test_bad_piece(self):
        calls = [outside_names, never_whole, lambda thing: is_given(thing, None), lambda thing: seen_at(thing, None),
                 lambda thing: is_whole(thing, None)]
        for thing in plain.odd_things() + [ROW, Piece, (ROW, ["a"], STOOD, FACES)]:
            for call in calls:
                self.raises((errors.BadPiece, thing), call, thing)


class TestGiven(plain.Checks):
    def test_ordinary(self):
        for thing in [{}, {"a": ["x"]}, {"a": ["x", "y"], "d": ["y", "x"]}, {"a": ["x"], "b": ["y"], "d": ["nobody"]},
                      {"b": ["p", "q"], "a": ["w"]}, {"a": ["x"], "b": ["y"], "d": ["x"]}]:
            for told in plain.both_kinds(thing):
                self.assertIs(is_given(THREE, told), True)

    def test_wrong(self):
        for thing in [{"c": ["x"]}, {"a": []}, {"a": ["x", "x"]}, {"a": "x"}, {"a": ["X"]}, {"a": {"x": 1}}, {1: ["x"]},
                      {"a": ["x", "y"], "d": ["y"]}, {"a": ["x", "y"], "d": ["y", "z"]}, {"e": ["x"]}, [("a", ["x"])],
                      {"a": ["x"], "b": ["y"], "d": ["x", "y"]}, {"a": [None]}, {"a": ["x"], None: ["y"]}]:
            self.wrong(thing)
        self.assertIs(is_given(Piece(ROW, [], STOOD, FACES), {"a": ["x"]}), False)

    def wrong(self, thing):
        self.assertIs(is_given(THREE, thing), False)
        for call in [seen_at, is_whole]:
            self.raises((errors.BadGiven, thing), call, THREE, thing)

    def test_any_objects(self):
        for thing in plain.odd_things():
            if thing != {}:
                self.wrong(thing)
            if not isinstance(thing, (list, tuple)) or thing in ([], (), [[]], [None], [1, 2, 3], ("q", "q")):
                self.wrong({"a": thing})
            if thing != "nowhere":
                self.wrong({"a": ["x", thing]})
                self.wrong({"b": ["y"], "a": [thing]})
        self.assertIs(is_given(SMALL, {}), True)


class TestSeen(plain.Checks):
    def test_all_given(self):
        for rooms, doors, gates, placing, faces in drawn_pieces(160, 1):
            piece = Piece(House(rooms, doors), gates, placing, faces)
            seen = [room for room in rooms if faces[room]]
            for given in all_given(gates, ["x", "w", "p"]):
                lots = plain_within(rooms, doors, gates, placing, faces, given)
                wanted = plain_seen(gates, lots, given)
                for told in (given, {gate: tuple(given[gate][::-1]) for gate in reversed(list(given))}):
                    self.assertEqual(seen_at(piece, told), wanted)
                whole = all(any(room in lot for _, lot in lots) for room in seen)
                self.assertIs(is_whole(piece, given), whole)
            self.ascends(seen_at(piece, {}))

    def test_within_a_greater_house(self):
        """Around the piece, all who are given as one stand beside a room that is beside all of their gates."""
        for rooms, doors, gates, placing, faces in drawn_pieces(120, 2):
            piece = Piece(House(rooms, doors), gates, placing, faces)
            for given in all_given(gates, [name for name in ["x", "w", "q"] if name not in placing]):
                house, told, whole = self.set_in(rooms, doors, placing, faces, given)
                lots = last_lots(house, told, whole)
                for gate, people in seen_at(piece, given).items():
                    asked = f"r{gate}" if gate in given else gate
                    wanted = [names for names, some in lots if asked in some]
                    self.assertEqual([people], wanted or [[]])
                self.assertIs(is_whole(piece, given), left_out(house, told, whole) == [])

    def set_in(self, rooms, doors, placing, faces, given):
        """The greater house: a room of each given person, the first one's beside all of its lot and rooms around."""
        names = sorted({person for people in given.values() for person in people})
        around = [f"r{gate}" for gate in given]
        more = [(gate, f"r{gate}") for gate in given]
        told = {**faces, **{f"s{person}": person for person in names}}
        for gate, people in given.items():
            told[f"r{gate}"] = min(people)
            more += [(f"r{gate}", f"s{min(people)}")]
            more += [(f"s{min(people)}", f"s{person}") for person in people if person != min(people)]
        house = House([*rooms, *around, *[f"s{person}" for person in names]], [*doors, *sorted(set(more))])
        return house, {**placing, **{person: f"s{person}" for person in names}}, told

    def test_more_given(self):
        """With more given nowhere less is seen, and what is whole stays so."""
        for rooms, doors, gates, placing, faces in drawn_pieces(60, 3):
            piece = Piece(House(rooms, doors), gates, placing, faces)
            every = all_given(gates, ["x", "y"])
            for less, more in itertools.product(every, repeat=2):
                if all(gate in more and set(less[gate]) <= set(more[gate]) for gate in less):
                    one, other = seen_at(piece, less), seen_at(piece, more)
                    self.assertTrue(all(set(one[gate]) <= set(other[gate]) for gate in one))
                    self.assertTrue(is_whole(piece, more) or not is_whole(piece, less))

    def test_lots_with_a_person_in_common(self):
        # p stands within, so that the room around d is of its lot; x and y are given as one at two gates.
        self.assertEqual(seen_at(THREE, {}), {"a": [], "b": ["p", "q"], "d": []})
        self.assertEqual(seen_at(THREE, {"d": ["p"]}), {"a": [], "b": ["p", "q"], "d": ["p", "q"]})
        self.assertEqual(seen_at(THREE, {"d": ["y", "p"]}), {"a": [], "b": ["p", "q", "y"], "d": ["p", "q", "y"]})
        told = seen_at(THREE, {"d": ["y", "x"], "a": ["x", "y"]})
        self.assertEqual(told, {"a": ["p", "q", "x", "y"], "b": ["p", "q", "x", "y"], "d": ["p", "q", "x", "y"]})
        self.assertEqual(seen_at(THREE, {"d": ["w"]}), {"a": [], "b": ["p", "q"], "d": ["w"]})
        self.assertIs(is_whole(THREE, {"a": ["x"]}), False)
        self.assertIs(is_whole(THREE, {"a": ["x"], "d": ["y"]}), True)


class TestNeverWhole(plain.Checks):
    def test_all_that_could_be_given(self):
        found = set()
        for rooms, doors, gates, placing, faces in drawn_pieces(400, 4):
            piece = Piece(House(rooms, doors), gates, placing, faces)
            names = [name for name in ["p", "q", "x", "y"] if name in outside_names(piece)] + ["new"]
            if len(names) < 4:
                never = not any(is_whole(piece, given) for given in all_given(gates, names))
                self.assertIs(never_whole(piece), never)
                at_once = {gate: names for gate in gates}
                self.assertIs(is_whole(piece, at_once), not never)
                found.add((never, len(gates)))
        self.assertEqual(found, {(never, many) for never in (True, False) for many in range(4)})

    def test_without_gates(self):
        self.assertIs(never_whole(Piece(ROW, [], STOOD, FACES)), True)
        self.assertIs(never_whole(Piece(ROW, [], STOOD, {**FACES, "a": "p", "d": "p"})), False)
        self.assertIs(never_whole(Piece(ROW, [], {}, dict.fromkeys("abcd"))), False)
        self.assertIs(never_whole(Piece(ROW, ["a"], STOOD, FACES)), False)
        self.assertIs(never_whole(Piece(ROW, ["a"], {"p": "b"}, {**FACES, "c": None})), True)
        self.assertIs(never_whole(THREE), False)

    def test_names_like_new_ones(self):
        # Names that the program could take for new ones, of rooms and of people.
        rooms = [f"n{k}" for k in range(6)]
        house = House(rooms, list(zip(rooms, rooms[1:])))
        for shown in itertools.product(["n0", "n1", "n2", None], repeat=3):
            faces = dict(zip(rooms, [*shown, None, "n1", "n3"]))
            piece = Piece(house, ["n0", "n3"], {"n3": "n5"}, faces)
            lots = plain_within(rooms, house.doors(), [], {"n3": "n5"}, faces, {})
            self.assertEqual(seen_at(piece, {}), plain_seen(["n0", "n3"], lots, {}))
            given = {"n0": ["n0", "n1", "n2", "n4"], "n3": ["n0", "n1", "n2", "n4"]}
            lots = plain_within(rooms, house.doors(), [], {"n3": "n5"}, faces, given)
            self.assertEqual(seen_at(piece, given), plain_seen(["n0", "n3"], lots, given))
            self.assertIs(never_whole(piece), not is_whole(piece, given))


class TestLimits(plain.Checks):
    def test_thirty_rooms(self):
        chance = random.Random(5)
        for many in (29, 40, 60):
            rooms, doors = plain.drawn_house(30, many, chance)
            gates = chance.sample(rooms, 3)
            names = [f"p{k:02d}" for k in range(6)]
            stood = [room for room in rooms if room not in gates]
            placing = dict(zip(names, chance.sample(stood, 6)))
            faces = {room: chance.choice([*names, "x", "y", None]) for room in rooms}
            faces.update({room: person for person, room in placing.items()})
            piece = Piece(House(rooms, doors), gates, placing, faces)
            for given in all_given(gates, ["x", "y", "z"])[::5]:
                lots = plain_within(rooms, doors, gates, placing, faces, given)
                self.assertEqual(seen_at(piece, given), plain_seen(gates, lots, given))
            self.assertIs(never_whole(piece), not is_whole(piece, dict.fromkeys(gates, ["x", "y", "w"])))


if __name__ == "__main__":
    unittest.main()
