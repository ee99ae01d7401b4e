"""Point [11]."""

import unittest

import plain
from lastfaces import errors
from lastfaces.houses import House
from lastfaces.maps import is_map, is_placing, rooms_of, seen_rooms, shown

ROOMS = ["c", "a", "b"]
HOUSE = House(ROOMS, [("a", "b")])
FACES = {"c": "x", "b": None, "a": "y"}


def no_maps():
    """Any objects that are no map of the house."""
    faces = [{**FACES, "b": thing} for thing in plain.no_names() if thing is not None]
    keys = [{"a": "x", "b": "x", thing: "x"} for thing in ["d", "A", 1, None, True, ("c",), len]]
    return plain.odd_things() + faces + keys + [{}, {"a": "x", "b": "x"}, {**FACES, "d": "x"}, {**FACES, 1: None}]


class TestMaps(plain.Checks):
    def test_is_map(self):
        self.assertIs(is_map(HOUSE, FACES), True)
        self.assertIs(is_map(HOUSE, plain.other_order(FACES)), True)
        self.assertIs(is_map(HOUSE, {"a": None, "b": None, "c": None}), True)
        self.assertIs(is_map(HOUSE, {"a": "a", "b": "x" * 12, "c": "z9"}), True)
        for thing in no_maps():
            self.assertIs(is_map(HOUSE, thing), False)

    def test_told(self):
        for faces in plain.maps(ROOMS, ["y", "x", "w", None]):
            self.assertIs(is_map(HOUSE, faces), True)
            self.assertEqual(shown(HOUSE, faces), sorted({face for face in faces.values() if face}))
            self.assertEqual(seen_rooms(HOUSE, faces), [room for room in sorted(ROOMS) if faces[room]])
            for person in ["w", "x", "y", "z", "a"]:
                wanted = [room for room in sorted(ROOMS) if faces[room] == person]
                self.assertEqual(rooms_of(HOUSE, faces, person), wanted)

    def test_bad_map(self):
        for thing in no_maps():
            for call in [shown, seen_rooms]:
                self.raises((errors.BadMap, thing), call, HOUSE, thing)
            self.raises((errors.BadMap, thing), rooms_of, HOUSE, thing, "x")
            self.raises((errors.BadMap, thing), rooms_of, HOUSE, thing, 1)

    def test_bad_person(self):
        for thing in plain.no_names():
            self.raises((errors.BadPerson, thing), rooms_of, HOUSE, FACES, thing)

    def test_unchanged_and_new(self):
        faces = dict(FACES)
        for call in [shown, seen_rooms, lambda house, told: rooms_of(house, told, "x")]:
            told = call(HOUSE, faces)
            kept = list(told)
            told.clear()
            self.assertEqual(call(HOUSE, faces), kept)
        self.assertEqual(list(faces.items()), list(FACES.items()))


class TestPlacings(plain.Checks):
    def test_is_placing(self):
        for people in [[], ["x"], ["y", "x"], ["x", "a", "y"]]:
            for start in plain.starts(ROOMS, people):
                self.assertIs(is_placing(HOUSE, start), len(set(start.values())) == len(people))
                self.assertIs(is_placing(HOUSE, plain.other_order(start)), len(set(start.values())) == len(people))

    def test_wrong(self):
        things = [thing for thing in plain.odd_things() if thing != {}]
        things += [{"x": thing} for thing in plain.odd_things()] + [{"x": "a", "y": thing} for thing in [["b"], 1, "d"]]
        things += [{thing: "a"} for thing in ["", "A", "1", 1, None, True, ("x",), "x" * 13]]
        things += ["x", [("x", "a")], {"x": "a", "y": "a"}]
        for thing in things:
            self.assertIs(is_placing(HOUSE, thing), False)


if __name__ == "__main__":
    unittest.main()
