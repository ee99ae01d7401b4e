"""Points [98] and [99], and what [102] says of them."""

import itertools
import random
import unittest

import plain
from lastfaces import errors
from lastfaces.houses import House
from lastfaces.looks import best_look, fewest_looks, maps_left, settled

ROW = House(list("abcde"), [("a", "b"), ("b", "c"), ("c", "d"), ("d", "e")])
ENDS = {"y": "e", "x": "a"}
STAR = House(list("mabc"), [("m", "a"), ("m", "b"), ("m", "c")])
CALLS = [maps_left, settled, fewest_looks, best_look]


def plain_left(rooms, doors, placing, seen):
    """All full maps that go and have all seen faces, by their faces, rooms ascending."""
    told = [faces for faces in plain.maps(sorted(rooms), sorted(placing))
            if plain.plain_goes(doors, placing, faces) and all(faces[room] == seen[room] for room in seen)]
    return told


def plain_fewest(rooms, maps):
    """The least number of looks, by all ways to look."""
    return 0 if len(maps) < 2 else min(plain_behind(rooms, maps, room) for room in rooms) + 1


def plain_behind(rooms, maps, room):
    """How many looks are enough behind a look at a room, looked at once."""
    lots = [[faces for faces in maps if faces[room] == person] for person in sorted({faces[room] for faces in maps})]
    left = [other for other in rooms if other != room]
    return max(plain_fewest(left, lot) for lot in lots)


def cases(houses, most, every):
    index = 0
    for rooms, doors in houses:
        for many in range(1, min(most, len(rooms)) + 1):
            for placing in plain.placings(rooms, ["y", "x", "z"][:many]):
                index += 1
                if index % every == 0:
                    yield rooms, doors, placing


class TestExample(plain.Checks):
    def test_row(self):
        self.assertEqual(len(maps_left(ROW, ENDS, {})), 4)
        self.assertEqual((fewest_looks(ROW, ENDS, {}), best_look(ROW, ENDS, {})), (2, "c"))
        told = settled(ROW, ENDS, {"c": "x"})
        self.assertEqual(told, {"a": "x", "b": "x", "c": "x", "e": "y"})
        self.ascends(told)
        self.assertEqual(fewest_looks(ROW, ENDS, {"c": "x"}), 1)

    def test_star(self):
        self.assertEqual(len(maps_left(STAR, {"x": "a", "y": "b"}, {})), 4)
        self.assertEqual(fewest_looks(STAR, {"x": "a", "y": "b"}, {}), 2)
        self.assertEqual(best_look(STAR, {"x": "a", "y": "b"}, {}), "c")


class TestLeft(plain.Checks):
    def test_all_small(self):
        chance = random.Random(1)
        none = 0
        for rooms, doors, placing in cases(plain.small_houses(4) + plain.five_room_houses(), 3, 3):
            house = House(rooms, doors)
            seen = {room: chance.choice(list(placing)) for room in chance.sample(rooms, chance.choice([0, 0, 1, 2]))}
            maps = plain_left(rooms, doors, placing, seen)
            told = maps_left(house, placing, seen)
            self.assertEqual(told, maps)
            self.assertIs(type(told), list)
            self.ascends(told)
            if not maps:
                none += 1
                for call in CALLS[1:]:
                    self.raises((errors.NoneLeft,), call, house, placing, seen)
            else:
                sure = {room: maps[0][room] for room in rooms if len({faces[room] for faces in maps}) == 1}
                self.assertEqual(settled(house, placing, seen), sure)
        self.assertGreater(none, 20)

    def test_fewest(self):
        chance = random.Random(2)
        found = set()
        for rooms, doors, placing in cases(plain.small_houses(4) + plain.five_room_houses(), 3, 4):
            house = House(rooms, doors)
            seen = {room: chance.choice(list(placing)) for room in chance.sample(rooms, chance.choice([0, 0, 1]))}
            maps = plain_left(rooms, doors, placing, seen)
            if maps:
                many = plain_fewest(sorted(rooms), maps)
                found.add(many)
                self.assertEqual(fewest_looks(house, placing, seen), many)
                first = [room for room in sorted(rooms) if many and plain_behind(sorted(rooms), maps, room) + 1 == many]
                self.assertEqual(best_look(house, placing, seen), first[0] if first else None)
        self.assertEqual(found, {0, 1, 2, 3})

    def test_facts(self):
        """Of a row with two people at its ends, and of a star with none in the middle."""
        for size in range(2, 12):
            rooms = [f"r{k:02d}" for k in range(size)]
            house = House(rooms, list(zip(rooms, rooms[1:])))
            many = fewest_looks(house, {"x": rooms[0], "y": rooms[-1]}, {})
            self.assertEqual(many, min(k for k in range(9) if 2 ** k >= size - 1))
        for size in range(3, 8):
            rooms = [f"r{k}" for k in range(size)]
            for count in range(2, min(size, 4)):
                house = House(rooms, [(rooms[0], room) for room in rooms[1:]])
                placing = dict(zip("xyz", rooms[1:count + 1]))
                self.assertEqual(fewest_looks(house, placing, {}), size - count)

    def test_errors_in_order(self):
        for call in CALLS:
            for thing in plain.odd_things():
                self.raises((errors.BadPlacing, thing), call, ROW, thing, thing)
                if thing != {}:
                    self.raises((errors.BadSeen, thing), call, ROW, ENDS, thing)
                seen = {"c": "x", "b": thing}
                self.raises((errors.BadSeen, seen), call, ROW, ENDS, seen)
            empty = {}
            self.raises((errors.BadPlacing, empty), call, ROW, empty, None)
            for seen in [{"b": "z"}, {"f": "x"}, {"b": None}, {"b": "x", None: "x"}, [("b", "x")], {"b": ["x"]}]:
                self.raises((errors.BadSeen, seen), call, ROW, ENDS, seen)
            two = {"x": "a", "y": "a"}
            self.raises((errors.BadPlacing, two), call, ROW, two, {})

    def test_seen_where_somebody_stands(self):
        self.assertEqual(maps_left(ROW, ENDS, {"a": "y"}), [])
        self.assertEqual(maps_left(ROW, ENDS, {"a": "x", "d": "x"}), [dict(zip("abcde", "xxxxy"))])
        self.raises((errors.NoneLeft,), settled, ROW, ENDS, {"b": "y", "c": "x"})
        self.assertIsNone(best_look(ROW, {"x": "b"}, {}))
        self.assertEqual(fewest_looks(ROW, {"x": "b"}, {"e": "x"}), 0)


class TestLimits(plain.Checks):
    def test_seven_rooms(self):
        chance = random.Random(3)
        for many in (6, 7, 9, 12):
            rooms, doors = plain.drawn_house(7, many, chance)
            placing = dict(zip(["y", "z", "x"], chance.sample(rooms, 3)))
            maps = plain_left(rooms, doors, placing, {})
            self.assertEqual(maps_left(House(rooms, doors), placing, {}), maps)
            if maps:
                self.assertEqual(fewest_looks(House(rooms, doors), placing, {}), plain_fewest(sorted(rooms), maps))

    def test_beyond(self):
        rooms = list("abcdefghi")
        house = House(rooms, list(itertools.combinations(rooms, 2)))
        self.assertEqual(fewest_looks(house, dict(zip("xyz", "abc")), {}), 6)
        self.assertEqual(len(maps_left(house, dict(zip("xyz", "abc")), {})), 3 ** 6)


if __name__ == "__main__":
    unittest.main()
