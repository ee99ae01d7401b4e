"""Points [67] and [68]."""

import itertools
import unittest

import plain
import plaintowers
from lastfaces import errors
from lastfaces.houses import House
from lastfaces.towers import Tower, floor_of, whole_house
from lastfaces.towerwalks import is_tower_walk, tower_faces, tower_stands
from lastfaces.walks import is_walk, last_faces, stands

AB, CD, E = House(["a", "b"], [("a", "b")]), House(["d", "c"], [("c", "d")]), House(["e"], [])
CHUTES = [(2, "d"), (1, "b"), (2, "a")]
T = Tower([AB, CD, E], ["a", "c", "e"], CHUTES)


def no_chutes():
    """Any objects that are no chute of the tower above."""
    told = [(0, "a"), (1, "c"), (1, "d"), (1, "e"), (2, "e"), (3, "a"), (-1, "a"), (True, "a"), ("1", "a"), (1, "x")]
    told += [(1, "a", "b"), (1,), (1, ["a"]), {1: "a"}, "1a", ("a", 1), (1, None), (None, "a")]
    return plain.odd_things() + told


class TestTower(plain.Checks):
    def test_told(self):
        self.assertEqual(T.floors(), [AB, CD, E])
        self.assertEqual(T.landings(), ["a", "c", "e"])
        self.assertEqual(T.chutes(), [(1, "b"), (2, "a"), (2, "d")])
        self.assertTrue(all(type(chute) is tuple for chute in T.chutes()))
        for told in (T.floors, T.landings, T.chutes):
            self.assertIs(type(told()), list)
            told().clear()
            self.assertEqual(len(told()), 3)
        self.assertEqual(whole_house(T), House(["a", "b", "c", "d", "e"], [("a", "b"), ("c", "d")]))
        self.assertEqual([floor_of(T, room) for room in "abcde"], [0, 0, 1, 1, 2])
        one = Tower([E], ["e"], [])
        self.assertEqual((one.floors(), one.landings(), one.chutes(), whole_house(one)), ([E], ["e"], [], E))

    def test_copied(self):
        floors, landings, chutes = [AB, CD, E], ["a", "c", "e"], [[2, "d"], (1, "b"), [2, "a"]]
        tower = Tower(floors, landings, chutes)
        chutes[0][1] = "c"
        for told in (floors, landings, chutes):
            told.pop()
        self.assertEqual(tower, T)

    def test_equal(self):
        self.assertEqual(T, Tower((AB, CD, E), ("a", "c", "e"), tuple(map(list, CHUTES))))
        self.assertEqual(T, Tower([House(["b", "a"], [["b", "a"]]), CD, E], ["a", "c", "e"], CHUTES[::-1]))
        for other in [Tower([AB, CD, E], ["b", "c", "e"], CHUTES), Tower([AB, CD, E], ["a", "c", "e"], CHUTES[1:]),
                      Tower([CD, AB, E], ["c", "a", "e"], [(2, "d"), (2, "a")]), whole_house(T),
                      Tower([House(["a", "b"], []), CD, E], ["a", "c", "e"], CHUTES)] + plain.odd_things():
            self.assertIs(T == other, False)
            self.assertIs(T != other, True)

    def test_bad_floors(self):
        for thing in plain.no_lists() + [[], (), AB, T, {0: AB}]:
            self.raises((errors.BadFloors, 0), Tower, thing, None, None)
        for thing in plain.odd_things() + [T, House]:
            if not isinstance(thing, House):
                self.raises((errors.BadFloors, 1), Tower, [AB, thing, None], None, None)
        self.raises((errors.BadFloors, 2), Tower, [AB, CD, House(["f", "b"], []), None], None, None)
        self.raises((errors.BadFloors, 1), Tower, (AB, AB), None, None)

    def test_bad_landings(self):
        floors = [AB, CD, E]
        for thing in plain.no_lists() + ["ace", {"a": 1}]:
            self.raises((errors.BadLandings, 0), Tower, floors, thing, None)
        for thing in plain.odd_things() + ["a", "e", ["c"], CD]:
            self.raises((errors.BadLandings, 1), Tower, floors, ["a", thing, "e"], None)
            self.raises((errors.BadLandings, 3), Tower, floors, ["a", "c", "e", thing, thing], None)
        for many in range(3):
            self.raises((errors.BadLandings, many), Tower, floors, ["a", "c", "e"][:many], None)
        self.raises((errors.BadLandings, 0), Tower, floors, [None], None)
        self.raises((errors.BadLandings, 0), Tower, floors, ["x", "y"], None)

    def test_bad_chutes(self):
        for thing in plain.no_lists() + [{(1, "b"): 1}]:
            self.raises((errors.BadChutes, 0), Tower, [AB, CD, E], ["a", "c", "e"], thing)
        for thing in no_chutes():
            self.raises((errors.BadChutes, 1), Tower, [AB, CD, E], ["a", "c", "e"], [(2, "c"), thing, None])
        self.raises((errors.BadChutes, 2), Tower, [AB, CD, E], ["a", "c", "e"], [(1, "a"), (2, "a"), [1, "a"], None])
        self.raises((errors.BadChutes, 0), Tower, [AB], ["a"], [(0, "b")])

    def test_no_room(self):
        for thing in plain.odd_things() + ["x", "f"]:
            self.raises((errors.NoRoom, thing), floor_of, T, thing)


class TestWalks(plain.Checks):
    def goes(self, tower, start, steps):
        where = dict(start)
        for person, room in steps:
            if room not in plaintowers.down_from(tower, where[person]):
                return False
            where[person] = room
        return True

    def test_all_short_walks(self):
        for tower in plaintowers.small_towers(18, 1):
            rooms = plaintowers.rooms_of(tower)
            made = plaintowers.made(tower)
            for begins in itertools.product(rooms, repeat=2):
                start = dict(zip(["y", "x"], begins))
                for steps in itertools.product([(person, room) for person in "xy" for room in rooms], repeat=2):
                    goes = self.goes(tower, start, steps)
                    self.assertIs(is_tower_walk(made, start, steps), goes)
                    if goes:
                        self.judge(made, rooms, start, list(steps))
                    else:
                        index = 1 if self.goes(tower, start, steps[:1]) else 0
                        for call in [tower_stands, tower_faces]:
                            self.raises((errors.BadSteps, index), call, made, start, list(steps))

    def judge(self, made, rooms, start, steps):
        times = plain.gone_through(start, steps)
        told = tower_stands(made, start, steps)
        self.assertEqual(list(told.items()), sorted(times[-1].items()))
        if len(set(times[-1].values())) < len(start):
            self.raises((errors.Crowded, times[-1]["x"]), tower_faces, made, start, steps)
        else:
            faces = tower_faces(made, start, tuple(map(list, steps)))
            self.assertEqual(faces, plain.plain_faces(rooms, times))
            self.ascends(faces)

    def test_down_alone(self):
        start = {"x": "e", "y": "a"}
        steps = [("x", "a"), ("x", "b"), ("y", "b"), ("x", "a")]
        self.assertIs(is_tower_walk(T, start, steps), True)
        self.assertEqual(tower_faces(T, start, steps), {"a": "x", "b": "y", "c": None, "d": None, "e": "x"})
        for steps in [[("x", "c")], [("y", "e")], [("x", "d"), ("x", "b")], [("x", "b")]]:
            self.assertIs(is_tower_walk(T, start, steps), False)

    def test_one_floor(self):
        one = Tower([CD], ["c"], [])
        for steps in [[], [("x", "d")], [("x", "c")], [("x", "d"), ("y", "d")], [("y", "c"), ("x", "d"), ("y", "d")]]:
            start = {"x": "c", "y": "d"}
            self.assertIs(is_tower_walk(one, start, steps), is_walk(CD, start, steps))
        self.assertEqual(tower_stands(one, {"x": "c"}, [("x", "d")]), stands(CD, {"x": "c"}, [("x", "d")]))
        self.assertEqual(tower_faces(one, {"x": "c"}, [("x", "d")]), last_faces(CD, {"x": "c"}, [("x", "d")]))

    def test_errors_in_order(self):
        for thing in plain.odd_things():
            self.assertIs(is_tower_walk(T, {"x": "a"}, thing), thing in ([], ()))
            self.assertIs(is_tower_walk(T, thing, [thing]), False)
            self.assertIs(is_tower_walk(T, {"x": "a"}, [thing]), False)
            self.assertIs(is_tower_walk(T, {"x": thing}, []), False)
            for call in [tower_stands, tower_faces]:
                if thing != {}:
                    self.raises((errors.BadStart, thing), call, T, thing, thing)
                self.raises((errors.BadSteps, 1), call, T, {"x": "a"}, [("x", "b"), thing, None])
                self.raises((errors.BadSteps, 0), call, T, {"x": "a"}, (("x", thing),))
        for thing in plain.no_lists():
            for call in [tower_stands, tower_faces]:
                self.raises((errors.BadSteps, 0), call, T, {"x": "a"}, thing)
        self.raises((errors.Crowded, "a"), tower_faces, T, {"x": "e", "y": "a", "z": "d", "w": "c"},
                    [("x", "a"), ("w", "d")])


if __name__ == "__main__":
    unittest.main()
