"""Points [86] to [89], [91], and what [92] and [93] say of them."""

import itertools
import random
import unittest

import plain
from plain import map_key
from lastfaces import errors
from lastfaces.changes import good_changes, harming_changes, moved_to, with_person
from lastfaces.houses import House
from lastfaces.maprows import fewest_changed, is_row, nearest_maps, row_between
from lastfaces.therule import goes_with, why_not

H = House(["a", "b", "c", "d"], [("a", "b"), ("b", "c"), ("c", "d"), ("d", "a")])
P = {"x": "c", "y": "b"}
L = {"a": "x", "b": "y", "c": "x", "d": None}
NEXT = {"a": None, "b": "y", "c": "x", "d": "y"}
STUCK = {"a": "z", "b": "y", "c": "x", "d": None}
CALLS = [good_changes, harming_changes, fewest_changed, nearest_maps, lambda *told: with_person(*told, None, None),
         lambda *told: moved_to(*told, None), lambda *told: row_between(*told, None)]


def plain_changes(rooms, doors, placing, faces):
    """The lists of the changes behind which a map goes, and of all others."""
    told = [], []
    for room in sorted(rooms):
        for face in [None, *sorted(placing)]:
            if face != faces[room]:
                goes = plain.plain_goes(doors, placing, {**faces, room: face})
                told[0 if goes else 1].append((room, face))
    return told


def all_cases(houses, most):
    """Placings of few people and all maps with their faces and one more, as (rooms, doors, placing, faces)."""
    for rooms, doors in houses:
        for many in range(min(most, len(rooms)) + 1):
            for placing in plain.placings(rooms, ["y", "x"][:many]):
                for faces in plain.maps(rooms, [None, *["y", "x"][:many], "z"]):
                    yield rooms, doors, placing, faces


def going_by_rows(rooms, doors, placing):
    """All maps that go, as the lists of their faces compare, None ahead of people."""
    told = plain.going_maps(rooms, doors, placing)
    return sorted(told, key=lambda faces: [faces[room] or "" for room in sorted(rooms)])


def unlike(one, other):
    return sum(one[room] != other[room] for room in one)


class TestErrors(plain.Checks):
    def test_placings_and_maps(self):
        for call in CALLS:
            for thing in plain.odd_things():
                if thing != {}:
                    self.raises((errors.BadPlacing, thing), call, H, thing, thing)
                self.raises((errors.BadMap, thing), call, H, P, thing)


class TestChanges(plain.Checks):
    def test_example(self):
        self.assertEqual(good_changes(H, P, L), [("a", None), ("a", "y"), ("d", "x"), ("d", "y")])
        self.assertEqual(harming_changes(H, P, L), [("b", None), ("b", "x"), ("c", None), ("c", "y")])

    def test_all_small(self):
        for rooms, doors, placing, faces in itertools.islice(all_cases(plain.small_houses(4), 2), 0, None, 7):
            house = House(rooms, doors)
            good, harming = plain_changes(rooms, doors, placing, faces)
            self.assertEqual(good_changes(house, placing, faces), good)
            self.assertEqual(harming_changes(house, placing, faces), harming)

    def test_larger(self):
        for rooms, doors, placing, faces in plain.grown_cases(60, 1, sizes=(6, 7), most=4):
            good, harming = plain_changes(rooms, doors, placing, faces)
            self.assertEqual(good_changes(House(rooms, doors), placing, faces), good)
            self.assertEqual(harming_changes(House(rooms, doors), placing, faces), harming)
            self.assertTrue(all((room, None) in harming for room in placing.values()))
            # The last room of an order can be wiped.
            if plain.left_of(rooms, placing, faces):
                order = plain.plain_orders(rooms, doors, placing, faces)[0]
                self.assertIn((order[-1], None), good)

    def test_one_person_beside_all_others(self):
        """All rooms but the placing's show one person, beside whose room all others stand."""
        for rooms, doors in plain.small_houses(4):
            for placing in plain.placings(rooms, ["x", "y"]) + plain.placings(rooms, ["x", "y", "z"]):
                if all(placing[person] in plain.near(doors, placing["x"]) for person in placing if person != "x"):
                    for faces in plain.going_maps(rooms, doors, placing):
                        if all(faces[room] in (None, "x") for room in rooms if room not in placing.values()):
                            for room, face in harming_changes(House(rooms, doors), placing, faces):
                                beside = set(plain.near(doors, room)) & set(placing.values())
                                self.assertTrue(face is None or room in placing.values() or not beside)

    def test_thirty_rooms(self):
        chance = random.Random(2)
        rooms, doors = plain.drawn_house(30, 60, chance)
        placing = dict(zip([f"p{k:02d}" for k in range(20)], chance.sample(rooms, 20)))
        faces = plain.grown_map(rooms, doors, placing, chance)
        house = House(rooms, doors)
        good, harming = good_changes(house, placing, faces), harming_changes(house, placing, faces)
        self.assertEqual(len(good) + len(harming), 30 * 20)
        for room, face in chance.sample(good, 5) + chance.sample(harming, 5):
            goes = plain.plain_goes(doors, placing, {**faces, room: face})
            self.assertEqual(goes, (room, face) in good)


class TestWithPerson(plain.Checks):
    def test_told(self):
        told = with_person(H, {"y": "b", "x": "c"}, {"d": None, "c": "x", "b": "y", "a": "x"}, "a", "d")
        self.assertEqual(told, ({"a": "d", "x": "c", "y": "b"}, {"a": "x", "b": "y", "c": "x", "d": "a"}))
        self.assertIs(type(told), tuple)
        self.ascends(told)
        self.assertEqual(with_person(H, P, L, "z", "a"), ({**P, "z": "a"}, {**L, "a": "z"}))

    def test_goes_then(self):
        for rooms, doors, placing, faces in plain.going_cases(plain.small_houses(4), 2, every=3):
            for room in rooms:
                if room not in placing.values():
                    house = House(rooms, doors)
                    self.assertIs(goes_with(house, *with_person(house, placing, faces, "z", room)), True)

    def test_errors_in_order(self):
        for thing in plain.no_names() + ["x", "y"]:
            self.raises((errors.BadPerson, thing), with_person, H, P, L, thing, None)
        for thing in plain.odd_things():
            self.raises((errors.NoRoom, thing), with_person, H, P, L, "z", thing)
        self.raises((errors.TakenRoom, "b"), with_person, H, P, L, "z", "b")
        self.raises((errors.TakenRoom, "c"), with_person, H, P, L, "nobody", "c")


class TestMovedTo(plain.Checks):
    def test_example(self):
        self.assertEqual(moved_to(H, P, L, "y"), ["b"])
        self.assertEqual(moved_to(H, P, L, "x"), ["a", "c"])

    def test_all_small(self):
        for rooms, doors, placing, faces in itertools.islice(all_cases(plain.small_houses(4), 2), 3, None, 5):
            for person in placing:
                free = [room for room in sorted(rooms) if room not in placing.values() or room == placing[person]]
                wanted = [room for room in free if plain.plain_goes(doors, {**placing, person: room}, faces)]
                self.assertEqual(moved_to(House(rooms, doors), placing, faces, person), wanted)

    def test_bad_person(self):
        for thing in plain.odd_things() + ["z", "a"]:
            self.raises((errors.BadPerson, thing), moved_to, H, P, L, thing)


class TestRows(plain.Checks):
    def judge(self, doors, placing, one, other, row):
        """Asserts that it is a shortest row between two maps."""
        self.assertEqual((type(row), row[0], row[-1], len(row)), (list, one, other, unlike(one, other) + 1))
        self.assertTrue(all(unlike(a, b) == 1 for a, b in zip(row, row[1:])))
        self.assertTrue(all(plain.plain_goes(doors, placing, faces) for faces in row))
        self.ascends(row)

    def test_example(self):
        row = row_between(H, P, L, NEXT)
        self.judge(H.doors(), P, L, NEXT, row)
        self.assertEqual(len(row), 3)
        self.assertEqual(row_between(H, P, L, L), [L])

    def test_all_small(self):
        chance = random.Random(3)
        for rooms, doors in plain.small_houses(4):
            for many in range(min(3, len(rooms)) + 1):
                for placing in plain.placings(rooms, ["y", "x", "z"][:many]):
                    maps = plain.going_maps(rooms, doors, placing)
                    pairs = list(itertools.product(maps, repeat=2))
                    for one, other in chance.sample(pairs, min(len(pairs), 12)):
                        row = row_between(House(rooms, doors), placing, one, other)
                        self.judge(doors, placing, one, other, row)
                        self.assertIs(is_row(House(rooms, doors), placing, row), True)

    def test_thirty_rooms(self):
        chance = random.Random(4)
        for many in (29, 45):
            rooms, doors = plain.drawn_house(30, many, chance)
            placing = dict(zip(["p", "q", "r", "s"], chance.sample(rooms, 4)))
            one, other = [plain.grown_map(rooms, doors, placing, chance, most) for most in (1000, 12)]
            for pair in [(one, other), (other, one)]:
                self.judge(doors, placing, *pair, row_between(House(rooms, doors), placing, *pair))

    def test_errors_in_order(self):
        for thing in plain.odd_things():
            self.raises((errors.BadMap, thing), row_between, H, P, thing, thing)
            self.raises((errors.BadMap, thing), row_between, H, P, STUCK, thing)
        for one, other in [(STUCK, {**STUCK, "b": None}), (STUCK, L)]:
            with self.assertRaises(errors.NoWalks) as caught:
                row_between(H, P, one, other)
            self.assertEqual(caught.exception.why, why_not(H, P, one))
        with self.assertRaises(errors.NoWalks) as caught:
            row_between(H, P, L, {**STUCK, "b": None})
        self.assertEqual(caught.exception.why, ("room", "y"))

    def test_is_row(self):
        row = row_between(H, P, L, NEXT)
        for told in [row, tuple(row), row[:1], row + row[1::-1], [plain.other_order(faces) for faces in row]]:
            self.assertIs(is_row(H, P, told), True)
        for thing in [*plain.odd_things(), row[::2], [L, L], [STUCK], [L, {**L, "a": "z"}], [L, None], [[L]], L,
                      {"a": L},
                      [*row, STUCK], [{**L, "b": None}, L], [{**L, "e": None}], [row]]:
            self.assertIs(is_row(H, P, thing), False)
        for thing in plain.odd_things():
            self.assertIs(is_row(H, P, [thing]), False)
            self.assertIs(is_row(H, P, [L, thing]), False)
            if thing != {}:
                self.raises((errors.BadPlacing, thing), is_row, H, thing, None)

    def test_is_row_all_pairs(self):
        for rooms, doors in plain.small_houses(3):
            for placing in plain.placings(rooms, ["y", "x"][:len(rooms)]):
                faces = plain.maps(rooms, [None, "x", "y"])
                going = {map_key(one) for one in faces if plain.plain_goes(doors, placing, one)}
                for one, other in itertools.product(faces, repeat=2):
                    wanted = {map_key(one), map_key(other)} <= going and unlike(one, other) == 1
                    self.assertIs(is_row(House(rooms, doors), placing, [one, other]), wanted)


class TestNearest(plain.Checks):
    def test_all_small(self):
        for rooms, doors, placing, faces in itertools.islice(all_cases(plain.small_houses(4), 2), 1, None, 11):
            self.judge(rooms, doors, placing, faces)

    def judge(self, rooms, doors, placing, faces):
        maps = going_by_rows(rooms, doors, placing)
        least = min(unlike(faces, other) for other in maps)
        house = House(rooms, doors)
        self.assertEqual(fewest_changed(house, placing, faces), least)
        told = nearest_maps(house, placing, faces)
        self.assertEqual(told, [other for other in maps if unlike(faces, other) == least])
        self.ascends(told)

    def test_seven_rooms(self):
        chance = random.Random(5)
        for many in (6, 8, 10):
            rooms, doors = plain.drawn_house(7, many, chance)
            for count in (0, 1, 2, 3):
                placing = dict(zip(["y", "x", "w"], chance.sample(rooms, count)))
                self.judge(rooms, doors, placing, {room: chance.choice(["w", "x", "y", "z", None]) for room in rooms})

    def test_beyond(self):
        chance = random.Random(6)
        rooms, doors = plain.drawn_house(20, 25, chance)
        placing = dict(zip(["y", "x", "w"], chance.sample(rooms, 3)))
        faces = plain.grown_map(rooms, doors, placing, chance)
        self.assertEqual(nearest_maps(House(rooms, doors), placing, faces), [faces])
        stood = placing["y"]
        self.assertEqual(fewest_changed(House(rooms, doors), placing, {**faces, stood: "z"}), 1)


if __name__ == "__main__":
    unittest.main()
