"""Point [90], and what [92] and [93] say of it."""

import itertools
import random
import unittest

import plain
from lastfaces import errors
from lastfaces.doorchanges import built_doors, fewest_doors, mending_doors, needed_doors
from lastfaces.houses import House
from lastfaces.therule import why_not

H = House(["a", "b", "c", "d"], [("a", "b"), ("b", "c"), ("c", "d"), ("d", "a")])
WALLED = House(["a", "b", "c", "d"], [("b", "c"), ("c", "d"), ("d", "a")])
P = {"x": "c", "y": "b"}
L = {"a": "x", "b": "y", "c": "x", "d": None}


def pairs_left(rooms, doors):
    pairs = itertools.combinations(sorted(rooms), 2)
    return [pair for pair in pairs if pair not in doors and pair[::-1] not in doors]


def plain_needed(doors, placing, faces):
    told = [tuple(sorted(door)) for door in doors
            if not plain.plain_goes([other for other in doors if other != door], placing, faces)]
    return sorted(told)


def plain_mending(rooms, doors, placing, faces):
    if plain.plain_goes(doors, placing, faces):
        return []
    return [pair for pair in pairs_left(rooms, doors) if plain.plain_goes(doors + [pair], placing, faces)]


def plain_built(rooms, doors, placing, faces):
    """The first of the shortest ascending lists of doors that let a map go, None if none do."""
    pairs = pairs_left(rooms, doors)
    for many in range(len(pairs) + 1):
        for some in itertools.combinations(pairs, many):
            if plain.plain_goes(doors + list(some), placing, faces):
                return list(some)
    return None


def drawn_cases(many, seed, sizes=(1, 2, 3, 4, 5)):
    """Drawn houses with few doors, and maps of which some can go."""
    chance = random.Random(seed)
    for _ in range(many):
        rooms = chance.sample(["f", *plain.NAMES], chance.choice(sizes))
        pairs = list(itertools.combinations(rooms, 2))
        doors = chance.sample(pairs, min(len(pairs), chance.randint(0, len(rooms))))
        people = ["y", "x", "w"][:chance.randint(0, min(3, len(rooms)))]
        placing = dict(zip(people, chance.sample(rooms, len(people))))
        faces = {room: chance.choice([*people, *people, None] + ["z"] * (chance.random() < 0.1)) for room in rooms}
        if chance.random() < 0.9:
            faces.update({room: person for person, room in placing.items()})
        yield rooms, doors, placing, faces


class TestDoors(plain.Checks):
    def test_example(self):
        self.assertEqual(mending_doors(WALLED, P, L), [("a", "b"), ("a", "c")])
        self.assertEqual(needed_doors(H, P, L), [("a", "b"), ("b", "c")])
        self.assertEqual((fewest_doors(WALLED, P, L), built_doors(WALLED, P, L)), (1, [("a", "b")]))
        self.assertEqual((fewest_doors(H, P, L), built_doors(H, P, L), mending_doors(H, P, L)), (0, [], []))

    def test_drawn(self):
        found = set()
        for rooms, doors, placing, faces in drawn_cases(500, 1):
            house = House(rooms, doors)
            wanted = plain_built(rooms, doors, placing, faces)
            self.assertEqual(built_doors(house, placing, faces), wanted)
            self.assertEqual(fewest_doors(house, placing, faces), None if wanted is None else len(wanted))
            self.assertEqual(mending_doors(house, placing, faces), plain_mending(rooms, doors, placing, faces))
            found.add(fewest_doors(house, placing, faces))
            taken = plain.plain_closure(doors, placing, faces)
            out = [room for room in rooms if faces[room] and room not in taken]
            could = all(faces[placing[person]] == person for person in placing)
            could = could and all(face is None or face in placing for face in faces.values())
            self.assertEqual(wanted is None, not could)
            if wanted is not None:
                self.assertLessEqual(len(wanted), len(out))
        self.assertEqual(found, {None, 0, 1, 2, 3, 4})

    def test_needed(self):
        for rooms, doors, placing, faces in plain.going_cases(plain.small_houses(4), 3, every=2):
            self.assertEqual(needed_doors(House(rooms, doors), placing, faces), plain_needed(doors, placing, faces))
        for rooms, doors, placing, faces in plain.grown_cases(40, 2, sizes=(6, 7)):
            self.assertEqual(needed_doors(House(rooms, doors), placing, faces), plain_needed(doors, placing, faces))

    def test_more_harms_nobody(self):
        for rooms, doors, placing, faces in plain.grown_cases(30, 3):
            for pair in pairs_left(rooms, doors):
                self.assertIs(plain.plain_goes(doors + [pair], placing, faces), True)
                needed = needed_doors(House(rooms, doors + [pair]), placing, faces)
                self.assertLessEqual(set(needed), set(needed_doors(House(rooms, doors), placing, faces)) | {pair})

    def test_two_doors_that_only_help_together(self):
        # A door between two rooms that nobody comes to helps at once as soon as the other one is built.
        house = House(["a", "b", "c", "d"], [])
        faces = {"a": "x", "b": "x", "c": "x", "d": None}
        self.assertEqual(built_doors(house, {"x": "c"}, faces), [("a", "b"), ("a", "c")])
        self.assertEqual(mending_doors(house, {"x": "c"}, faces), [])
        faces = {"a": "x", "b": "y", "c": "x", "d": "y"}
        self.assertEqual(built_doors(house, {"x": "a", "y": "d"}, faces), [("a", "c"), ("b", "d")])

    def test_errors_in_order(self):
        for call in [needed_doors, mending_doors, fewest_doors, built_doors]:
            for thing in plain.odd_things():
                if thing != {}:
                    self.raises((errors.BadPlacing, thing), call, H, thing, thing)
                self.raises((errors.BadMap, thing), call, H, P, thing)
        for faces in [{**L, "b": None}, {**L, "d": "z"}]:
            with self.assertRaises(errors.NoWalks) as caught:
                needed_doors(H, P, faces)
            self.assertEqual(caught.exception.why, why_not(H, P, faces))

    def test_no_doors_help(self):
        for placing, faces in [(P, {**L, "d": "z"}), (P, {**L, "b": "x"}), ({}, L), (P, {**L, "c": None})]:
            self.assertIsNone(fewest_doors(H, placing, faces))
            self.assertIsNone(built_doors(H, placing, faces))
            self.assertEqual(mending_doors(WALLED, placing, faces), [])
        self.assertEqual(built_doors(WALLED, {}, dict.fromkeys("abcd")), [])


class TestLimits(plain.Checks):
    def test_six_rooms(self):
        for rooms, doors, placing, faces in drawn_cases(12, 4, sizes=(6,)):
            wanted = plain_built(rooms, doors, placing, faces)
            self.assertEqual(built_doors(House(rooms, doors), placing, faces), wanted)
        alone = House(list("abcdefgh"), [])
        told = built_doors(alone, {"x": "h"}, dict.fromkeys("abcdefgh", "x"))
        self.assertEqual(told, [("a", other) for other in "bcdefgh"])

    def test_thirty_rooms(self):
        chance = random.Random(5)
        rooms, doors = plain.drawn_house(30, 120, chance)
        placing = dict(zip(["p", "q", "r"], chance.sample(rooms, 3)))
        faces = plain.grown_map(rooms, doors, placing, chance)
        self.assertEqual(needed_doors(House(rooms, doors), placing, faces), plain_needed(doors, placing, faces))
        rooms, doors = plain.drawn_house(30, 29, chance)
        faces = plain.grown_map(rooms, doors, placing, chance)
        for door in chance.sample(doors, 4):
            left = [other for other in doors if other != door]
            told = mending_doors(House(rooms, left), placing, faces)
            self.assertEqual(told, sorted(set(told)))
            goes = plain.plain_goes(left, placing, faces)
            for pair in chance.sample(pairs_left(rooms, left), 40) + chance.sample(told, min(len(told), 3)):
                self.assertIs(pair in told, not goes and plain.plain_goes(left + [pair], placing, faces))


if __name__ == "__main__":
    unittest.main()
