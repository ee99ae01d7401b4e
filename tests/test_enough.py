"""Point [46], and what [48] says of it."""

import itertools
import random
import unittest

import plain
from lastfaces import errors
from lastfaces.enough import fewest_told, follows, needless, tells_enough
from lastfaces.houses import House
from lastfaces.therule import why_not

H = House(["a", "b", "c", "d"], [("a", "b"), ("b", "c"), ("c", "d"), ("d", "a")])
F = {"a": "x", "b": "x", "c": "x", "d": None}


def all_lists(rooms):
    return [list(some) for many in range(len(rooms) + 1) for some in itertools.combinations(sorted(rooms), many)]


class TestExample(plain.Checks):
    def test_figures(self):
        self.assertEqual(needless(H, {"x": "a"}, F), ["a", "b"])
        self.assertEqual([follows(H, {"x": "a"}, F, room) for room in "abcd"], [True, True, False, False])
        self.assertEqual(fewest_told(H, {"x": "a"}, F), ["c", "d"])
        self.assertIs(tells_enough(H, {"x": "a"}, F, ["d", "c"]), True)
        self.assertIs(tells_enough(H, {"x": "a"}, F, ["b", "c"]), False)


class TestEnough(plain.Checks):
    def judge(self, rooms, doors, placing, faces):
        """Against all maps of the house that go with the placing."""
        house = House(rooms, doors)
        going = plain.going_maps(rooms, doors, placing)
        enough = []
        for some in all_lists(rooms):
            fit = [told for told in going if all(told[room] == faces[room] for room in some)]
            if len(fit) == 1:
                enough.append(some)
            for told in (some[::-1], tuple(some)):
                self.assertIs(tells_enough(house, placing, faces, told), len(fit) == 1)
            # Rooms tell enough just if each other one, all of these being wiped, can show one face alone.
            alone = all(len({told[room] for told in fit}) == 1 for room in rooms if room not in some)
            self.assertIs(alone, len(fit) == 1)
        shortest = min(enough, key=lambda some: (len(some), some))
        self.assertEqual(fewest_told(house, placing, plain.other_order(faces)), shortest)
        sure = [room for room in sorted(rooms) if [other for other in sorted(rooms) if other != room] in enough]
        self.assertEqual(needless(house, plain.other_order(placing), faces), sure)
        for room in rooms:
            self.assertIs(follows(house, placing, faces, room), room in sure)
        self.assertLessEqual(set(placing.values()), set(sure))

    def test_small_houses(self):
        for case in plain.going_cases(plain.small_houses(3), 3):
            self.judge(*case)

    def test_four_rooms(self):
        for case in plain.going_cases(plain.small_houses()[-11:], 3, 61):
            self.judge(*case)

    def test_larger_houses(self):
        for case in plain.grown_cases(24, 81, (5,)):
            self.judge(*case)

    def test_errors_in_order(self):
        calls = [follows, tells_enough, lambda *told: needless(*told[:3]), lambda *told: fewest_told(*told[:3])]
        for thing in plain.odd_things():
            for call in calls:
                if thing != {}:
                    self.raises((errors.BadPlacing, thing), call, H, thing, thing, thing)
                self.raises((errors.BadMap, thing), call, H, {"x": "a"}, thing, thing)
                for placing in [{}, {"x": "d"}, {"x": "a", "y": "b"}]:
                    with self.assertRaises(errors.NoWalks) as caught:
                        call(H, placing, F, thing)
                    self.assertEqual(caught.exception.why, why_not(H, placing, F))
            self.raises((errors.NoRoom, thing), follows, H, {"x": "a"}, F, thing)
            self.raises((errors.BadSome, 1), tells_enough, H, {"x": "a"}, F, ["a", thing, "a"])
        for thing in plain.no_lists():
            self.raises((errors.BadSome, 0), tells_enough, H, {"x": "a"}, F, thing)
        self.raises((errors.BadSome, 2), tells_enough, H, {"x": "a"}, F, ["a", "b", "a"])

    def test_nobody(self):
        none = dict.fromkeys("abcd")
        self.assertEqual(needless(H, {}, none), ["a", "b", "c", "d"])
        self.assertEqual(fewest_told(H, {}, none), [])
        self.assertIs(tells_enough(H, {}, none, []), True)


class TestLimits(plain.Checks):
    def test_eight_rooms(self):
        chance = random.Random(7)
        for many in (7, 9, 12):
            for people in (["x"], ["y", "x"], ["x", "y", "z"]):
                rooms, doors = plain.drawn_house(8, many, chance)
                placing = dict(zip(people, chance.sample(rooms, len(people))))
                faces = plain.grown_map(rooms, doors, placing, chance)
                told = fewest_told(House(rooms, doors), placing, faces)
                self.assertIs(tells_enough(House(rooms, doors), placing, faces, told), True)
                for room in told:
                    less = [other for other in told if other != room]
                    self.assertIs(tells_enough(House(rooms, doors), placing, faces, less), False)

    def test_sixty_rooms(self):
        chance = random.Random(8)
        for many in (59, 200):
            rooms, doors = plain.drawn_house(60, many, chance)
            people = [f"p{k:02d}" for k in range(20)]
            placing = dict(zip(people, chance.sample(rooms, 20)))
            faces = plain.grown_map(rooms, doors, placing, chance)
            house = House(rooms, doors)
            sure = needless(house, placing, faces)
            self.assertLessEqual(set(placing.values()), set(sure))
            self.assertIs(tells_enough(house, placing, faces, rooms), True)
            for room in rooms:
                self.assertIs(follows(house, placing, faces, room), room in sure)
                others = [other for other in rooms if other != room]
                self.assertIs(tells_enough(house, placing, faces, others), room in sure)


if __name__ == "__main__":
    unittest.main()
