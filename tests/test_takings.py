"""Point [60], and what [66] says of it."""

import itertools
import random
import unittest

import plain
from lastfaces import errors
from lastfaces.houses import House
from lastfaces.takings import first_left, taken_by

E = House(["c", "p", "q", "u", "w", "x", "y", "z"],
          [("c", "x"), ("c", "u"), ("x", "p"), ("x", "w"), ("w", "y"), ("u", "z"), ("z", "q")])
P = {"a": "c", "b": "q", "d": "p"}
F = {"c": "a", "x": "a", "y": "a", "z": "a", "q": "b", "w": "b", "p": "d", "u": "d"}


def plain_turns(rooms, doors, placing, faces, row):
    """What each turn takes in, and all that is taken in then."""
    taken = set(placing.values())
    told = []
    for person in row:
        shows = {room for room in rooms if faces[room] == person}
        more = plain.component(doors, taken | shows, placing[person]) & shows - taken
        told.append(sorted(more))
        taken |= more
    return told, taken


class TestExample(plain.Checks):
    def test_figures(self):
        row = ["a", "d", "a", "b", "a"]
        self.assertEqual(taken_by(E, P, F, row), [["x"], ["u"], ["z"], ["w"], ["y"]])
        self.assertIsNone(first_left(E, P, F, row))
        self.assertEqual(first_left(E, P, F, ["a", "b"]), "u")


class TestTakings(plain.Checks):
    def judge(self, rooms, doors, placing, faces, row):
        house = House(rooms, doors)
        told, taken = plain_turns(rooms, doors, placing, faces, row)
        left = [room for room in sorted(rooms) if faces[room] and room not in taken]
        for kind in (row, tuple(row)):
            self.assertEqual(taken_by(house, placing, plain.other_order(faces), kind), told)
            self.assertEqual(first_left(house, plain.other_order(placing), faces, kind), left[0] if left else None)

    def test_any_maps(self):
        chance = random.Random(1)
        for rooms, doors in plain.small_houses() + plain.five_room_houses():
            for many in range(min(3, len(rooms)) + 1):
                people = ["y", "x", "z"][:many]
                told = plain.maps(rooms, [None, *people, "w"])
                for placing in plain.placings(rooms, people)[::5]:
                    for faces in chance.sample(told, min(12, len(told))):
                        for length in range(4 if people else 1):
                            self.judge(rooms, doors, placing, faces, chance.choices(people, k=length) if people else [])

    def test_larger_houses(self):
        chance = random.Random(2)
        for rooms, doors, placing, faces in plain.grown_cases(80, 95, (6, 7)):
            for row in itertools.islice(itertools.product(sorted(placing), repeat=4), 0, None, 7):
                self.judge(rooms, doors, placing, faces, list(row))
        rooms, doors = plain.drawn_house(60, 90, chance)
        placing = {f"p{k:02d}": room for k, room in enumerate(chance.sample(rooms, 20))}
        faces = plain.grown_map(rooms, doors, placing, chance)
        self.judge(rooms, doors, placing, faces, chance.choices(sorted(placing), k=400))

    def test_rooms_that_do_not_show_their_people(self):
        row = House(["a", "b", "c", "d"], [("a", "b"), ("b", "c"), ("c", "d")])
        faces = {"a": "y", "b": "x", "c": None, "d": "x"}
        self.assertEqual(taken_by(row, {"x": "a", "y": "c"}, faces, ["x", "y", "x"]), [["b", "d"], [], []])
        self.assertIsNone(first_left(row, {"x": "a", "y": "c"}, faces, ["x"]))
        self.assertEqual(taken_by(row, {"x": "a"}, faces, ["x"]), [["b"]])
        self.assertEqual(first_left(row, {"x": "a"}, faces, ["x"]), "d")
        self.assertEqual(first_left(row, {}, faces, []), "a")
        self.assertEqual(taken_by(row, {}, faces, []), [])


class TestWrong(plain.Checks):
    def test_bad_turns(self):
        for call in [taken_by, first_left]:
            for thing in plain.odd_things() + ["c", "w", ("a",)]:
                self.raises((errors.BadTurns, 2), call, E, P, F, ["a", "a", thing, thing])
                self.raises((errors.BadTurns, 0), call, E, P, F, (thing,))
            for thing in plain.no_lists() + ["a", "ab", {"a": 1}]:
                self.raises((errors.BadTurns, 0), call, E, P, F, thing)
            self.raises((errors.BadTurns, 0), call, E, {}, F, ["a"])

    def test_errors_in_order(self):
        for call in [taken_by, first_left]:
            for thing in plain.odd_things():
                if thing != {}:
                    self.raises((errors.BadPlacing, thing), call, E, thing, thing, thing)
                self.raises((errors.BadMap, thing), call, E, P, thing, thing)


if __name__ == "__main__":
    unittest.main()
