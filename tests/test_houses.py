"""Points [3], [7], [8], [13] and the houses' limits of [14]."""

import copy
import unittest
from itertools import combinations

import plain
from lastfaces import errors
from lastfaces.houses import House, beside
from lastfaces.otherhouses import built_on, joined_by, part_of, renamed, without_door
from lastfaces.ways import parts, round_about, steps_between, way

RING = House(["a", "b", "c", "d"], [("a", "b"), ("b", "c"), ("c", "d"), ("d", "a")])


def subsets(things):
    return [list(some) for size in range(len(things) + 1) for some in combinations(things, size)]


class TestHouse(plain.Checks):
    def test_told_ascending(self):
        house = House(["d", "b", "a"], [("d", "a"), ("b", "a")])
        self.assertEqual(house.rooms(), ["a", "b", "d"])
        self.assertEqual(house.doors(), [("a", "b"), ("a", "d")])
        self.assertEqual(len(house), 3)
        self.assertIs(type(house.doors()[0]), tuple)

    def test_by_keyword(self):
        self.assertEqual(House(rooms=["a"], doors=[]), House(["a"], []))

    def test_lists_and_tuples(self):
        for rooms, doors in plain.small_houses(3):
            for told in plain.both_kinds([rooms, doors]):
                house = House(told[0], told[1])
                self.assertEqual(house.rooms(), sorted(rooms))
                self.assertEqual(house.doors(), sorted(tuple(sorted(door)) for door in doors))
                self.assertIs(type(house.rooms()), list)
                self.assertTrue(all(type(door) is tuple for door in house.doors()))

    def test_what_was_passed(self):
        rooms, doors = ["b", "a"], [["b", "a"]]
        house = House(rooms, doors)
        self.assertEqual((rooms, doors), (["b", "a"], [["b", "a"]]))
        rooms.append("c")
        doors[0][0] = "c"
        doors.append(["c", "a"])
        self.assertEqual(house, House(["a", "b"], [("a", "b")]))
        self.assertEqual((house.rooms(), house.doors(), beside(house, "a")), (["a", "b"], [("a", "b")], ["b"]))

    def test_told_new(self):
        house = House(["a", "b"], [("a", "b")])
        for tell in [house.rooms, house.doors, lambda: beside(house, "a")]:
            told = tell()
            kept = copy.deepcopy(told)
            told.clear()
            self.assertEqual(tell(), kept)

    def test_equal(self):
        house = House(["a", "b", "c"], [("a", "b")])
        self.assertTrue(house == House(("c", "b", "a"), (["b", "a"],)))
        self.assertFalse(house != House(("c", "b", "a"), (["b", "a"],)))
        for other in [House(["a", "b"], [("a", "b")]), House(["a", "b", "c"], []), House(["a", "b", "c"], [("a", "c")]),
                      House(["a", "b", "d"], [("a", "b")]), (["a", "b", "c"], [("a", "b")]), *plain.odd_things()]:
            self.assertFalse(house == other)
            self.assertTrue(house != other)
            self.assertFalse(other == house)

    def test_names(self):
        for name in ["a", "z", "a" * 12, "a0123456789z", "z9"]:
            self.assertEqual(House([name], []).rooms(), [name])
        for name in ["", "a" * 13, "1a", "0", "A", "aB", "a_", "a b", " a", "a\n", "\u00e9", "a\u00b2", "a\u0661",
                     "\uff41", "a-", b"a", "a."]:
            self.raises((errors.BadRooms, 0), House, [name], [])

    def test_bad_rooms(self):
        for thing in plain.no_lists() + [[], ()]:
            self.raises((errors.BadRooms, 0), House, thing, None)
        for thing in plain.no_names() + ["b", "a"]:
            self.raises((errors.BadRooms, 2), House, ["a", "b", thing, 5], [1])
        self.raises((errors.BadRooms, 1), House, ("a", "a", 1), [])
        self.raises((errors.BadRooms, 3), House, ["a", "b", "c", ["a"]], [])
        self.raises((errors.BadRooms, 0), House, {"a": "a"}, [])
        self.raises((errors.BadRooms, 0), House, "ab", [])

    def test_bad_doors(self):
        for thing in plain.no_lists():
            self.raises((errors.BadDoors, 0), House, ["a", "b"], thing)
        rooms = ["a", "b", "c"]
        for thing in plain.no_pairs() + [("a", "a"), ("a", "d"), ("d", "a"), ["a", "b"], ["b", "a"]]:
            self.raises((errors.BadDoors, 1), House, rooms, [("a", "b"), thing, 1])
        self.raises((errors.BadDoors, 2), House, rooms, (("a", "b"), ("c", "b"), ("b", "c")))
        self.raises((errors.BadDoors, 0), House, rooms, {("a", "b"): 1})

    def test_beside(self):
        self.assertEqual(beside(RING, "a"), ["b", "d"])
        self.assertEqual(beside(House(["a"], []), "a"), [])
        for rooms, doors in plain.small_houses():
            for room in rooms:
                self.assertEqual(beside(House(rooms, doors), room), sorted(plain.near(doors, room)))
        for thing in plain.odd_things():
            self.raises((errors.NoRoom, thing), beside, RING, thing)


class TestWays(plain.Checks):
    def test_parts_and_round_about(self):
        for rooms, doors in plain.small_houses() + plain.five_room_houses():
            house = House(rooms, doors)
            for some in subsets(rooms):
                self.assertEqual(parts(house, some), plain.plain_parts(doors, some))
                self.assertEqual(parts(house, tuple(reversed(some))), plain.plain_parts(doors, some))
                around = sorted({b for a in some for b in plain.near(doors, a)} - set(some))
                self.assertEqual(round_about(house, some), around)
                self.assertEqual(round_about(house, tuple(reversed(some))), around)
        self.assertEqual(parts(RING, ["d", "b", "a"]), [["a", "b", "d"]])
        self.assertEqual(parts(RING, ["d", "b"]), [["b"], ["d"]])
        self.assertEqual((parts(RING, []), round_about(RING, [])), ([], []))

    def test_ways(self):
        for rooms, doors in plain.small_houses() + plain.five_room_houses():
            house = House(rooms, doors)
            again = House(rooms[::-1], [door[::-1] for door in doors[::-1]])
            for one in rooms:
                far = {one: 0}
                for many in range(1, len(rooms)):
                    for room in [room for room in far if far[room] == many - 1]:
                        far.update({b: many for b in plain.near(doors, room) if b not in far})
                for other in rooms:
                    self.assertEqual(steps_between(house, one, other), far.get(other))
                    told = way(house, one, other)
                    self.assertEqual(told, way(again, one, other))
                    if other not in far:
                        self.assertIsNone(told)
                        continue
                    self.assertIs(type(told), list)
                    self.assertEqual((told[0], told[-1], len(told)), (one, other, far[other] + 1))
                    self.assertTrue(all(b in plain.near(doors, a) for a, b in zip(told, told[1:])))

    def test_bad_some(self):
        for call in [parts, round_about, part_of, lambda house, some: built_on(house, "z", some)]:
            for thing in plain.no_lists():
                self.raises((errors.BadSome, 0), call, RING, thing)
            for thing in plain.odd_things() + ["b", "a", "e"]:
                self.raises((errors.BadSome, 2), call, RING, ("a", "b", thing, None))
            self.raises((errors.BadSome, 1), call, RING, ["a", "a", 1])

    def test_no_room(self):
        for call in [way, steps_between, without_door]:
            for thing in plain.odd_things():
                self.raises((errors.NoRoom, thing), call, RING, thing, "a")
                self.raises((errors.NoRoom, thing), call, RING, "a", thing)
            one, other = [1], [2]
            self.raises((errors.NoRoom, one), call, RING, one, other)

    def test_told_new_and_unchanged(self):
        some = ["d", "a", "b"]
        for call in [parts, round_about, lambda house, _: way(house, "a", "c")]:
            told = call(RING, some)
            kept = copy.deepcopy(told)
            if isinstance(told[0], list):
                told[0].append("z")
            told.append("z")
            self.assertEqual(call(RING, some), kept)
        self.assertEqual(some, ["d", "a", "b"])


class TestOtherHouses(plain.Checks):
    def test_part_of(self):
        for rooms, doors in plain.small_houses():
            for some in subsets(rooms)[1:]:
                within = [(a, b) for a, b in doors if a in some and b in some]
                for told in plain.both_kinds(some):
                    self.assertEqual(part_of(House(rooms, doors), told), House(some, within))
        for empty in [[], ()]:
            self.raises((errors.BadSome, 0), part_of, RING, empty)

    def test_built_on(self):
        for rooms, doors in plain.small_houses():
            for some in subsets(rooms):
                wanted = House(rooms + ["bb"], doors + [("bb", room) for room in some])
                for told in plain.both_kinds(some):
                    self.assertEqual(built_on(House(rooms, doors), "bb", told), wanted)
        for thing in plain.no_names() + ["a"]:
            self.raises((errors.BadName, thing), built_on, RING, thing, None)

    def test_joined_by(self):
        other = House(["x", "y"], [("x", "y")])
        wanted = House(RING.rooms() + ["x", "y"], RING.doors() + [("x", "y"), ("a", "x"), ("a", "y"), ("c", "x")])
        for told in plain.both_kinds([("a", "x"), ("c", "x"), ("a", "y")]):
            self.assertEqual(joined_by(RING, other, told), wanted)
        apart = joined_by(RING, other, [])
        self.assertEqual((len(apart), len(apart.doors())), (6, 5))
        self.raises((errors.CommonRoom, "b"), joined_by, RING, House(["c", "z", "b"], []), None)
        for thing in plain.no_lists():
            self.raises((errors.BadDoors, 0), joined_by, RING, other, thing)
        for thing in plain.no_pairs() + [("x", "b"), ("a", "b"), ("x", "y"), ("a", "x"), ["a", "x"]]:
            self.raises((errors.BadDoors, 1), joined_by, RING, other, [("a", "x"), thing, 1])

    def test_renamed(self):
        names = {"a": "d", "b": "z", "c": "a", "d": "y"}
        wanted = House(["d", "z", "a", "y"], [("d", "z"), ("z", "a"), ("a", "y"), ("y", "d")])
        self.assertEqual(renamed(RING, names), wanted)
        self.assertEqual(renamed(RING, plain.other_order(names)), wanted)
        for thing in plain.odd_things():
            self.raises((errors.BadNames, thing), renamed, RING, thing)
        for thing in plain.no_names() + ["z", "y"]:
            bad = {**names, "a": thing}
            self.raises((errors.BadNames, bad), renamed, RING, bad)
        for bad in [{**names, "e": "e"}, {"a": "a", "b": "b", "c": "c"}, {"a": "a", "b": "b", "c": "c", "e": "e"},
                    {"a": "a", "b": "b", "c": "c", 1: "e"}]:
            self.raises((errors.BadNames, bad), renamed, RING, bad)
        self.assertEqual(names, {"a": "d", "b": "z", "c": "a", "d": "y"})

    def test_without_door(self):
        row = House(["a", "b", "c", "d"], [("a", "b"), ("b", "c"), ("c", "d")])
        self.assertEqual(without_door(RING, "d", "a"), row)
        self.assertEqual(without_door(RING, "a", "d"), row)
        self.raises((errors.NoDoor, "d", "a"), without_door, row, "d", "a")
        self.raises((errors.NoDoor, "a", "d"), without_door, row, "a", "d")
        self.raises((errors.NoDoor, "a", "a"), without_door, row, "a", "a")
        self.assertEqual(len(RING.doors()), 4)


class TestLimits(plain.Checks):
    def test_sixty_rooms(self):
        rooms = [f"room{k:08d}" for k in range(60)]
        doors = [(rooms[a], rooms[b]) for a, b in combinations(range(60), 2) if b - a <= 3 or (a < 9 and b == a + 30)]
        doors += [(rooms[a], rooms[a + 20]) for a in range(200 - len(doors))]
        self.assertEqual((len(rooms[0]), len(doors)), (12, 200))
        house = House(rooms, doors)
        self.assertEqual((len(house), len(house.doors())), (60, 200))
        self.assertEqual(parts(house, rooms), [rooms])
        row = House(rooms, [(rooms[k], rooms[k + 1]) for k in range(59)])
        self.assertEqual(way(row, rooms[59], rooms[0]), rooms[::-1])
        self.assertEqual(steps_between(row, rooms[0], rooms[59]), 59)
        self.assertEqual(parts(row, rooms[::2]), [[room] for room in rooms[::2]])
        self.assertEqual(len(joined_by(row, House(["z"], []), [(room, "z") for room in rooms])), 61)


if __name__ == "__main__":
    unittest.main()
