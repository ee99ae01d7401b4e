"""Points [106] to [111], and what [112] says of them."""

import itertools
import random
import unittest
from fractions import Fraction
from math import comb

import plain
from lastfaces import errors
from lastfaces.houses import House
from lastfaces.otherhouses import part_of
from lastfaces.walkchances import face_chances, left_chances, mean_seen, never_chance
from lastfaces.walkcounts import count_first_with, count_walks, count_walks_to, count_walks_with, cover_counts

H = House(["a", "b", "c", "d"], [("a", "b"), ("b", "c"), ("c", "d"), ("d", "a")])
XY = {"y": "c", "x": "a"}
FACES = {"a": "x", "b": "x", "c": "y", "d": None}
BY_MANY = [count_walks, lambda *told: count_walks_to(*told, None), lambda *told: count_walks_with(*told, None, None),
           lambda *told: count_first_with(*told, None, None), lambda *told: never_chance(*told, None), mean_seen,
           lambda *told: face_chances(*told, None), lambda *told: left_chances(*told, None)]
TO_PLACINGS = [count_walks_to, lambda *told: count_walks_with(*told, None), lambda *told: count_first_with(*told, None)]


def fraction(over, under):
    told = Fraction(over, under)
    return told.numerator, told.denominator


def walks_of(doors, start, many):
    """All walks of just many steps."""
    return [steps for steps in plain.all_walks(doors, start, many) if len(steps) == many]


def cases(seed, most=3):
    """Small houses, starts of few people and numbers of steps, as (rooms, doors, start, many)."""
    chance = random.Random(seed)
    for rooms, doors in plain.small_houses(4) + plain.five_room_houses():
        for people in range(most + 1):
            start = {person: chance.choice(rooms) for person in ["y", "x", "z"][:people]}
            yield rooms, doors, start, chance.randint(0, 4 - people if people < 3 else 2)


class TestExample(plain.Checks):
    def test_one(self):
        self.assertEqual(count_walks(H, {"x": "a"}, 3), 8)
        self.assertEqual(face_chances(H, {"x": "a"}, 3, "c"), ({"x": (1, 2)}, (1, 2), (0, 1)))
        self.assertEqual(cover_counts(H, "a", 3), {2: 2, 3: 4, 4: 2})

    def test_two(self):
        self.assertEqual(count_walks(H, XY, 2), 16)
        self.assertEqual(face_chances(H, XY, 2, "b"), ({"x": (1, 4), "y": (1, 4)}, (3, 8), (1, 8)))
        self.assertEqual(left_chances(H, XY, 2, "b"), {2: (1, 4)})
        self.assertEqual(mean_seen(H, XY, 2), (13, 4))


class TestErrors(plain.Checks):
    def test_start_and_many(self):
        for call in BY_MANY:
            for thing in plain.odd_things():
                if thing != {}:
                    self.raises((errors.BadStart, thing), call, H, thing, None)
                if type(thing) is not int or thing < 0:
                    self.raises((errors.BadMany, thing), call, H, XY, thing)
            self.raises((errors.BadMany, -10 ** 70), call, H, {}, -10 ** 70)

    def test_placings(self):
        for call in TO_PLACINGS:
            for thing in plain.odd_things() + [{"x": "a", "y": "a"}]:
                if thing != {}:
                    self.raises((errors.BadPlacing, thing), call, H, XY, 1, thing)
            self.raises((errors.OtherPeople, "y"), call, H, XY, 1, {"x": "a"})
            self.raises((errors.OtherPeople, "w"), call, H, XY, 1, {"x": "a", "w": "b"})
            self.raises((errors.OtherPeople, "x"), call, H, XY, 1, {"y": "a", "z": "c"})
            self.raises((errors.OtherPeople, "x"), call, H, {}, 1, {"x": "a"})

    def test_maps(self):
        for call in [count_walks_with, count_first_with]:
            for thing in plain.odd_things():
                self.raises((errors.BadMap, thing), call, H, XY, 2, {"x": "b", "y": "d"}, thing)
                self.raises((errors.BadMap, thing), call, H, {"x": "a", "y": "a"}, 2, {"x": "b", "y": "d"}, thing)

    def test_rooms_and_no_steps(self):
        bare = House(["a", "b"], [])
        for call in [never_chance, face_chances, left_chances]:
            for thing in plain.odd_things():
                self.raises((errors.NoRoom, thing), call, H, XY, 2, thing)
                self.raises((errors.NoRoom, thing), call, bare, {"x": "a"}, 1, thing)
            self.raises((errors.NoSteps,), call, bare, {"x": "a"}, 1, "a")
            self.raises((errors.NoSteps,), call, H, {}, 3, "a")
        self.raises((errors.NoSteps,), mean_seen, bare, {"x": "a", "y": "b"}, 2)
        for thing in plain.odd_things():
            self.raises((errors.NoRoom, thing), cover_counts, H, thing, None)
            if type(thing) is not int or thing < 0:
                self.raises((errors.BadMany, thing), cover_counts, H, "a", thing)


class TestCounts(plain.Checks):
    def test_all_walks(self):
        for rooms, doors, start, many in cases(1):
            walks = walks_of(doors, start, many)
            house = House(rooms, doors)
            self.assertEqual(count_walks(house, plain.other_order(start), many), len(walks))
            ends = [plain.gone_through(start, steps)[-1] for steps in walks]
            for placing in plain.placings(rooms, list(start)):
                count = count_walks_to(house, start, many, placing)
                self.assertEqual(count, ends.count(placing))
                if len(set(start.values())) == len(start):
                    self.assertEqual(count_walks_to(house, placing, many, start), count)

    def test_two_lots_of_people(self):
        """People do not hinder one another."""
        chance = random.Random(2)
        for rooms, doors in plain.five_room_houses():
            start = {person: chance.choice(rooms) for person in "vwxyz"}
            house, many = House(rooms, doors), chance.randint(0, 9)
            one = {person: start[person] for person in "vy"}
            other = {person: start[person] for person in "wxz"}
            wanted = sum(comb(many, k) * count_walks(house, one, k) * count_walks(house, other, many - k)
                         for k in range(many + 1))
            self.assertEqual(count_walks(house, start, many), wanted)

    def test_with_maps(self):
        chance = random.Random(3)
        for rooms, doors, start, many in cases(4, most=2):
            house = House(rooms, doors)
            last, first = {}, {}
            for steps in walks_of(doors, start, many):
                times = plain.gone_through(start, steps)
                where = times[-1]
                if len(set(where.values())) == len(where):
                    key = plain.row_of(where, sorted(start))
                    faces = plain.row_of(plain.plain_faces(rooms, times), sorted(rooms))
                    last[key, faces] = last.get((key, faces), 0) + 1
                    begun = plain.plain_faces(rooms, times[::-1])
                    if len(set(start.values())) == len(start):
                        faces = plain.row_of(begun, sorted(rooms))
                        first[key, faces] = first.get((key, faces), 0) + 1
            for call, counts in ((count_walks_with, last), (count_first_with, first)):
                for (key, faces), count in counts.items():
                    placing, told = dict(zip(sorted(start), key)), dict(zip(sorted(rooms), faces))
                    self.assertEqual(call(house, start, many, placing, plain.other_order(told)), count)
                for placing in plain.placings(rooms, sorted(start)):
                    key = plain.row_of(placing, sorted(start))
                    for told in chance.sample(plain.maps(sorted(rooms), [None, *start, "q"]), 2):
                        row = plain.row_of(told, sorted(rooms))
                        self.assertEqual(call(house, start, many, placing, told), counts.get((key, row), 0))

    def test_the_one_is_the_other(self):
        chance = random.Random(5)
        for rooms, doors, start, many in cases(6, most=2):
            if len(set(start.values())) == len(start) and len(rooms) > 2:
                house = House(rooms, doors)
                for placing in plain.placings(rooms, list(start))[:4]:
                    maps = plain.maps(rooms, [None, *start])
                    for faces in chance.sample(maps, min(len(maps), 4)):
                        self.assertEqual(count_walks_with(house, start, many, placing, faces),
                                         count_first_with(house, placing, many, start, faces))

    def test_two_begin_in_one_room(self):
        crowd = {"x": "a", "y": "a"}
        self.assertEqual(count_first_with(H, crowd, 1, {"x": "a", "y": "b"}, {**FACES, "b": "y", "c": None}), 0)
        self.assertEqual(count_walks_with(H, crowd, 1, {"x": "a", "y": "b"}, {**FACES, "b": "y", "c": None}), 1)

    def test_covered(self):
        chance = random.Random(7)
        for rooms, doors in plain.small_houses(4) + plain.five_room_houses():
            room, many = chance.choice(rooms), chance.randint(0, 5)
            seen = [len({room, *[at for _, at in steps]}) for steps in walks_of(doors, {"x": room}, many)]
            told = cover_counts(House(rooms, doors), room, many)
            self.assertEqual(told, {count: seen.count(count) for count in seen})
            self.ascends(told)
        self.assertEqual(cover_counts(H, "a", 0), {1: 1})
        self.assertEqual(cover_counts(House(["a"], []), "a", 2), {})


    def test_covered_by_parts(self):
        """Through all rooms of a list and no others come a sum over its parts, with a minus for each that lacks."""
        for rooms, doors in plain.five_room_houses():
            house, begun, wanted = House(rooms, doors), rooms[0], {}
            for many in range(1, 6):
                for some in itertools.combinations(rooms, many):
                    if begun in some:
                        parts = [part for size in range(1, many + 1) for part in itertools.combinations(some, size)]
                        count = sum((-1) ** (many - len(part)) * count_walks(part_of(house, part), {"x": begun}, 7)
                                    for part in parts if begun in part)
                        wanted[many] = wanted.get(many, 0) + count
            told = cover_counts(house, begun, 7)
            self.assertEqual(told, {many: count for many, count in wanted.items() if count})


class TestChances(plain.Checks):
    def judge(self, rooms, doors, start, many):
        walks = walks_of(doors, start, many)
        house = House(rooms, doors)
        if not walks:
            for call in [never_chance, face_chances, left_chances]:
                self.raises((errors.NoSteps,), call, house, start, many, rooms[0])
            return self.raises((errors.NoSteps,), mean_seen, house, start, many)
        times = [plain.gone_through(start, steps) for steps in walks]
        seen = [{room for where in told for room in where.values()} for told in times]
        self.assertEqual(mean_seen(house, start, many), fraction(sum(map(len, seen)), len(walks)))
        for room in rooms:
            never = fraction(sum(room not in told for told in seen), len(walks))
            self.assertEqual(never_chance(house, start, many, room), never)
            faces = [plain.plain_faces([room], told)[room] for told in times]
            crowds = sum(type(face) is list for face in faces)
            people = {person: fraction(faces.count(person), len(walks)) for person in sorted(start)}
            told = face_chances(house, start, many, room)
            self.assertEqual(told, (people, never, fraction(crowds, len(walks))))
            self.ascends(told)
            steps = [self.last_left(told, room) for told in times]
            left = {step: fraction(steps.count(step), len(walks)) for step in sorted(set(steps) - {None})}
            told = left_chances(house, start, many, room)
            self.assertEqual(list(told.items()), list(left.items()))

    def last_left(self, times, room):
        """The step by which somebody goes out of a room last, nobody standing there at last; None if nobody does."""
        if room in times[-1].values():
            return None
        left = [step for step in range(1, len(times))
                if any(times[step - 1][person] == room != times[step][person] for person in times[0])]
        return max(left, default=None)

    def test_all_walks(self):
        for rooms, doors, start, many in cases(8):
            self.judge(rooms, doors, start, many)

    def test_longer(self):
        chance = random.Random(9)
        for rooms, doors in plain.five_room_houses()[:5]:
            self.judge(rooms, doors, {"x": chance.choice(rooms)}, 6)
            self.judge(rooms, doors, {"x": chance.choice(rooms), "y": chance.choice(rooms)}, 4)
        self.judge(["a"], [], {}, 0)
        self.judge(["a", "b"], [], {"y": "a", "x": "a"}, 0)


class TestLimits(plain.Checks):
    def test_sixty_rooms(self):
        chance = random.Random(10)
        rooms, doors = plain.drawn_house(60, 200, chance)
        house = House(rooms, doors)
        start = dict(zip(["v", "w", "x", "y", "z"], chance.sample(rooms, 5)))
        many = count_walks(house, start, 30)
        mean = Fraction(*mean_seen(house, start, 30))
        self.assertEqual(mean, sum(1 - Fraction(*never_chance(house, start, 30, room)) for room in rooms))
        self.assertGreater(many, 10 ** 20)
        placing = dict(zip("zyxwv", chance.sample(rooms, 5)))
        self.assertEqual(count_walks_to(house, start, 30, placing), count_walks_to(house, placing, 30, start))

    def test_thirty_rooms(self):
        chance = random.Random(11)
        rooms, doors = plain.drawn_house(30, 45, chance)
        house = House(rooms, doors)
        start = dict(zip(["x", "y", "z"], chance.sample(rooms, 3)))
        for room in [*start.values(), *chance.sample(rooms, 3)]:
            people, never, crowd = face_chances(house, start, 10, room)
            left = left_chances(house, start, 10, room)
            self.assertEqual(sum(Fraction(*told) for told in [*people.values(), never, crowd]), 1)
            self.assertEqual(never, never_chance(house, start, 10, room))
            self.assertLessEqual(sum(Fraction(*told) for told in left.values()),
                                 sum(Fraction(*told) for told in people.values()))
            self.assertTrue(set(left) <= set(range(1, 11)))

    def test_maps_of_five_rooms(self):
        chance = random.Random(12)
        for rooms, doors in plain.five_room_houses()[:4]:
            house = House(rooms, doors)
            start = dict(zip("xy", chance.sample(rooms, 2)))
            placing = dict(zip("xy", chance.sample(rooms, 2)))
            maps = plain.maps(rooms, [None, "x", "y"])
            total = sum(count_walks_with(house, start, 6, placing, faces) for faces in maps)
            self.assertEqual(total, count_walks_to(house, start, 6, placing))

    def test_eight_rooms(self):
        rooms = list("abcdefgh")
        house = House(rooms, list(itertools.combinations(rooms, 2)))
        told = cover_counts(house, "a", 20)
        self.assertEqual(sum(told.values()), 7 ** 20)
        self.assertEqual(told[2], 7)
        # Walks through just some rooms, less those that lack one of them.
        row = House(rooms, list(zip(rooms, rooms[1:])))
        told = cover_counts(row, "a", 7)
        self.assertEqual((told[8], told[2]), (1, 1))
        self.assertEqual(sum(told.values()), count_walks(row, {"x": "a"}, 7))


if __name__ == "__main__":
    unittest.main()
