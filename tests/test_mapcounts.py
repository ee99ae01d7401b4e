"""Points [103] to [105], and what [112] says of them."""

import itertools
import random
import unittest
from fractions import Fraction

import plain
from lastfaces import errors
from lastfaces.houses import House
from lastfaces.mapcounts import count_maps, map_number, map_numbered, maps_by_seen, mean_rooms, one_lot_chance
from lastfaces.mapcounts import shown_chances
from lastfaces.therule import why_not

H = House(["a", "b", "c", "d"], [("a", "b"), ("b", "c"), ("c", "d"), ("d", "a")])
ROW = House(["a", "b", "c", "d"], [("a", "b"), ("b", "c"), ("c", "d")])
XY = {"y": "c", "x": "a"}


def in_order(rooms, maps):
    return sorted(maps, key=lambda faces: [faces[room] or "" for room in sorted(rooms)])


def fraction(over, under):
    told = Fraction(over, under)
    return told.numerator, told.denominator


def cases():
    """Houses and placings, as (rooms, doors, placing)."""
    for rooms, doors in plain.small_houses(4):
        for many in range(min(3, len(rooms)) + 1):
            for placing in plain.placings(rooms, ["y", "x", "z"][:many]):
                yield rooms, doors, placing
    chance = random.Random(1)
    for rooms, doors in plain.five_room_houses():
        for many in range(4):
            yield rooms, doors, dict(zip(["y", "x", "z"], chance.sample(rooms, many)))


def forests(many, seed):
    """Drawn houses of six rooms or more without rings, with one person or two."""
    chance = random.Random(seed)
    for _ in range(many):
        size = chance.choice([6, 7])
        rooms = chance.sample([f"r{k}" for k in range(9)], size)
        doors = [(rooms[chance.randrange(k)], rooms[k]) for k in range(1, size) if chance.random() < 0.9]
        yield rooms, doors, dict(zip(["y", "x"], chance.sample(rooms, chance.choice([1, 2, 2]))))


class TestExample(plain.Checks):
    def test_one(self):
        one = {"x": "a"}
        self.assertEqual((count_maps(H, one), maps_by_seen(H, one)), (7, {1: 1, 2: 2, 3: 3, 4: 1}))
        self.assertEqual(mean_rooms(H, one), (18, 7))

    def test_two(self):
        self.assertEqual(count_maps(H, XY), 9)
        self.assertEqual(shown_chances(H, XY, "b"), ({"x": (1, 3), "y": (1, 3)}, (1, 3)))
        self.assertEqual(one_lot_chance(H, XY), (8, 9))
        self.assertEqual(count_maps(ROW, {"x": "a", "y": "d"}), 6)


class TestCounts(plain.Checks):
    def judge(self, rooms, doors, placing):
        house = House(rooms, doors)
        maps = in_order(rooms, plain.going_maps(rooms, doors, placing))
        self.assertEqual(count_maps(house, placing), len(maps))
        seen = [sum(face is not None for face in faces.values()) for faces in maps]
        told = maps_by_seen(house, placing)
        self.assertEqual(told, {many: seen.count(many) for many in seen})
        self.ascends(told)
        self.assertEqual(mean_rooms(house, placing), fraction(sum(seen), len(maps)))
        for room in rooms:
            people, nobody = shown_chances(house, placing, room)
            shown = [faces[room] for faces in maps]
            self.assertEqual(people, {person: fraction(shown.count(person), len(maps)) for person in placing})
            self.assertEqual(nobody, fraction(shown.count(None), len(maps)))
            self.ascends(people)
        lots = [plain.plain_lots(doors, placing, plain.plain_closure(doors, placing, faces)) for faces in maps]
        self.assertEqual(one_lot_chance(house, placing), fraction(sum(len(told) < 2 for told in lots), len(maps)))
        return house, maps

    def test_all_small(self):
        for index, (rooms, doors, placing) in enumerate(cases()):
            house, maps = self.judge(rooms, doors, placing)
            if index % 3 == 0:
                for number, faces in enumerate(maps):
                    told = map_numbered(house, placing, number)
                    self.assertEqual(told, faces)
                    self.ascends(told)
                    self.assertEqual(map_number(house, placing, plain.other_order(faces)), number)

    def test_forests(self):
        for rooms, doors, placing in forests(40, 2):
            self.judge(rooms, doors, placing)

    def test_mean_is_the_sum_of_chances(self):
        for rooms, doors, placing in itertools.islice(cases(), 0, None, 7):
            house = House(rooms, doors)
            chances = [1 - Fraction(*shown_chances(house, placing, room)[1]) for room in rooms]
            self.assertEqual(Fraction(*mean_rooms(house, placing)), sum(chances))

    def test_tuples(self):
        told = shown_chances(H, XY, "b")
        self.assertEqual([type(told), type(told[0]), type(told[1]), type(told[0]["x"])], [tuple, dict, tuple, tuple])
        self.assertEqual(shown_chances(H, {}, "b"), ({}, (1, 1)))
        self.assertEqual((count_maps(H, {}), maps_by_seen(H, {}), one_lot_chance(H, {})), (1, {0: 1}, (1, 1)))

    def test_errors(self):
        calls = [count_maps, maps_by_seen, mean_rooms, one_lot_chance]
        calls += [lambda *told, call=call: call(*told, None) for call in (shown_chances, map_numbered, map_number)]
        for call in calls:
            for thing in plain.odd_things() + [{"x": "a", "y": "a"}]:
                if thing != {}:
                    self.raises((errors.BadPlacing, thing), call, H, thing)
        for thing in plain.odd_things():
            self.raises((errors.NoRoom, thing), shown_chances, H, XY, thing)
            self.raises((errors.BadMap, thing), map_number, H, XY, thing)
            if type(thing) is not int or not 0 <= thing < 9:
                self.raises((errors.BadNumber, thing), map_numbered, H, XY, thing)
        for number in (9, 10, -1, True, False):
            self.raises((errors.BadNumber, number), map_numbered, H, XY, number)
        self.raises((errors.BadNumber, 1), map_numbered, H, {}, 1)
        for faces in [dict(zip("abcd", "xyxy")), dict(zip("abcd", ["x", None, None, "x"])), dict(zip("abcd", "xyyz"))]:
            with self.assertRaises(errors.NoWalks) as caught:
                map_number(H, XY, faces)
            self.assertEqual(caught.exception.why, why_not(H, XY, faces))


class TestForty(plain.Checks):
    def test_rows(self):
        rooms = [f"r{k:02d}" for k in range(40)]
        house = House(rooms, list(zip(rooms, rooms[1:])))
        # One person in a row: how many it takes in to the left and to the right.
        for at in (0, 7, 39):
            self.assertEqual(count_maps(house, {"x": rooms[at]}), (at + 1) * (40 - at))
        # Two at the ends: both take in some, not touching, or all rooms are seen.
        ends = {"y": rooms[0], "x": rooms[39]}
        apart = sum(1 for one in range(39) for other in range(one + 2, 40))
        self.assertEqual(count_maps(house, ends), apart + 39)
        self.assertEqual(one_lot_chance(house, ends), fraction(39, apart + 39))
        by_seen = maps_by_seen(house, ends)
        self.assertEqual(by_seen[40], 39)
        self.assertEqual(by_seen[2], 1)
        self.assertEqual(list(by_seen), [*range(2, 41)])
        people, nobody = shown_chances(house, ends, rooms[0])
        self.assertEqual((people, nobody), ({"x": (0, 1), "y": (1, 1)}, (0, 1)))

    def test_stars(self):
        rooms = [f"r{k:02d}" for k in range(40)]
        house = House(rooms, [(rooms[0], room) for room in rooms[1:]])
        self.assertEqual(count_maps(house, {"x": rooms[0]}), 2 ** 39)
        self.assertEqual(mean_rooms(house, {"x": rooms[0]}), (41, 2))
        self.assertEqual(shown_chances(house, {"x": rooms[0]}, rooms[9]), ({"x": (1, 2)}, (1, 2)))
        # Of two beside the middle one this shows one of both, and then each other room these or nobody; or nobody.
        two = {"y": rooms[1], "x": rooms[2]}
        self.assertEqual(count_maps(house, two), 2 * 3 ** 37 + 1)
        self.assertEqual(one_lot_chance(house, two), (2 * 3 ** 37, 2 * 3 ** 37 + 1))
        self.assertEqual(shown_chances(house, two, rooms[0]),
                         ({"x": (3 ** 37, 2 * 3 ** 37 + 1), "y": (3 ** 37, 2 * 3 ** 37 + 1)}, (1, 2 * 3 ** 37 + 1)))

    def test_drawn(self):
        chance = random.Random(3)
        for _ in range(3):
            rooms, doors = plain.drawn_house(40, 39, chance)
            doors = chance.sample(doors, 38)
            for many in (1, 2):
                placing = dict(zip("xy", chance.sample(rooms, many)))
                house = House(rooms, doors)
                by_seen = maps_by_seen(house, placing)
                self.assertEqual(count_maps(house, placing), sum(by_seen.values()))
                chances = [shown_chances(house, placing, room) for room in rooms]
                mean = sum(sum(Fraction(*told) for told in people.values()) for people, _ in chances)
                self.assertEqual(Fraction(*mean_rooms(house, placing)), mean)
                self.assertTrue(all(sum(Fraction(*told) for told in [*people.values(), nobody]) == 1
                                    for people, nobody in chances))


if __name__ == "__main__":
    unittest.main()
