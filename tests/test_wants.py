"""Point [21], and what [24] says of wants and ring_of_wants."""

import itertools
import random
import unittest

import plain
from lastfaces import errors
from lastfaces.houses import House
from lastfaces.lotsbyrows import row_fault
from lastfaces.wants import ring_of_doors, ring_of_wants, wants

RING = House(["a", "b", "c", "d"], [("a", "b"), ("b", "c"), ("c", "d"), ("d", "a")])
ROW = House(["a", "b", "c", "d"], [("a", "b"), ("b", "c"), ("c", "d")])
ENDS = {"x": "a", "y": "d"}
STUCK = {"a": "x", "b": "y", "c": "x", "d": "y"}


def has_ring(rooms, doors):
    """Without a ring there are just as many doors as rooms, less the parts."""
    return len(doors) != len(rooms) - len(plain.plain_parts(doors, rooms))


def forests():
    """Small houses without rings."""
    drawn = [case[:2] for case in plain.larger_cases(40, 3, (5, 6))]
    houses = plain.small_houses() + plain.five_room_houses() + drawn
    return [(rooms, doors) for rooms, doors in houses if not has_ring(rooms, doors)]


def all_ways(doors, one, other):
    """All lists of unlike rooms by which doors lead from one room to another."""
    rows = [[one]]
    for row in rows:
        if row[-1] != other:
            rows.extend(row + [room] for room in plain.near(doors, row[-1]) if room not in row)
    return [row for row in rows if row[-1] == other]


def plain_wants(rooms, doors, placing, faces):
    told = {}
    for room in sorted(rooms):
        if faces[room] in placing:
            ways = all_ways(doors, placing[faces[room]], room)
            told[room] = sorted(set(ways[0]) - {room}) if ways else None
    return told


def has_ring_of_wants(told):
    """Whether a room is wanted by itself through others."""
    for first in told:
        found = set(told[first] or [])
        grown = True
        while grown:
            new = {further for room in found for further in told.get(room) or []} - found
            found |= new
            grown = bool(new)
        if first in found:
            return True
    return False


def cases(seed):
    """Placings and maps of houses without rings: all of up to three rooms with up to two people, some others."""
    chance = random.Random(seed)
    for rooms, doors in forests():
        for many in range(4):
            people = ["y", "x", "z"][:many]
            if len(rooms) <= 3 and many <= 2:
                for placing in plain.placings(rooms, people):
                    for faces in plain.maps(rooms, [None, *people, "w"]):
                        yield rooms, doors, placing, faces
            elif many <= len(rooms):
                for _ in range(60):
                    placing = dict(zip(people, chance.sample(rooms, many)))
                    faces = {room: chance.choice([*people, None, *people, *people]) for room in rooms}
                    if chance.random() < 0.9:
                        faces.update({placing[person]: person for person in people})
                    yield rooms, doors, placing, faces


class TestExample(plain.Checks):
    def test_figures(self):
        self.assertEqual(wants(ROW, ENDS, STUCK), {"a": [], "b": ["c", "d"], "c": ["a", "b"], "d": []})
        self.assertIn(ring_of_wants(ROW, ENDS, STUCK), [["b", "c"], ["c", "b"]])
        self.assertIsNone(ring_of_wants(ROW, ENDS, {**STUCK, "b": "x", "c": "y"}))


class TestRingOfDoors(plain.Checks):
    def test_all(self):
        drawn = [case[:2] for case in plain.larger_cases(60, 4)]
        for rooms, doors in plain.small_houses() + plain.five_room_houses() + drawn:
            ring = ring_of_doors(House(rooms, doors))
            self.assertIs(ring is not None, has_ring(rooms, doors))
            if ring is not None:
                self.assertIs(type(ring), list)
                self.assertGreaterEqual(len(ring), 3)
                self.assertEqual(len(set(ring)), len(ring))
                for one, other in zip(ring, ring[1:] + ring[:1]):
                    self.assertIn(other, plain.near(doors, one))
            again = House(rooms[::-1], tuple(list(door[::-1]) for door in doors[::-1]))
            self.assertEqual(ring_of_doors(again), ring)

    def test_sixty_rooms(self):
        rooms = [f"r{k:02d}" for k in range(60)]
        row = list(zip(rooms, rooms[1:]))
        self.assertIsNone(ring_of_doors(House(rooms, row)))
        self.assertEqual(sorted(ring_of_doors(House(rooms, row + [(rooms[0], rooms[59])]))), rooms)
        self.assertEqual(sorted(ring_of_doors(House(rooms, row + [(rooms[20], rooms[22])]))), rooms[20:23])


class TestWants(plain.Checks):
    def test_all(self):
        for rooms, doors, placing, faces in cases(1):
            house = House(rooms, doors)
            told = wants(house, placing, faces)
            self.assertEqual(told, plain_wants(rooms, doors, placing, faces))
            self.ascends(told)
            ring = ring_of_wants(house, placing, faces)
            self.assertIs(ring is not None, has_ring_of_wants(told))
            if ring is not None:
                self.assertGreaterEqual(len(ring), 2)
                self.assertEqual(len(set(ring)), len(ring))
                for one, other in zip(ring, ring[1:] + ring[:1]):
                    self.assertIn(other, told[one])
            self.assertEqual(ring_of_wants(house, plain.other_order(placing), plain.other_order(faces)), ring)

    def test_rule_without_rings(self):
        for rooms, doors, placing, faces in cases(2):
            told = wants(House(rooms, doors), placing, faces)
            goes = all(faces[placing[person]] == person for person in placing)
            goes = goes and {face for face in faces.values() if face} <= set(placing)
            goes = goes and None not in told.values()
            goes = goes and all(faces[room] for some in told.values() for room in some)
            goes = goes and ring_of_wants(House(rooms, doors), placing, faces) is None
            self.assertIs(goes, plain.plain_goes(doors, placing, faces))
            if goes:
                self.judge_rows(House(rooms, doors), placing, faces, told)

    def judge_rows(self, house, placing, faces, told):
        """All left rooms are a row just if none stands ahead of one that it wants."""
        left = [room for room in house.rooms() if faces[room] and room not in placing.values()]
        for row in itertools.permutations(left):
            keeps = all(other not in told[room] for at, room in enumerate(row) for other in row[at + 1:])
            self.assertIs(row_fault(house, placing, faces, row) is None, keeps)

    def test_longer_ring(self):
        star = House(["m", "a", "b", "c", "p", "q", "r"],
                     [("m", "a"), ("m", "b"), ("m", "c"), ("a", "p"), ("b", "q"), ("c", "r")])
        placing = {"x": "p", "y": "q", "z": "r"}
        faces = {"p": "x", "q": "y", "r": "z", "a": "y", "b": "z", "c": "x", "m": "x"}
        ring = ring_of_wants(star, placing, faces)
        told = wants(star, placing, faces)
        self.assertEqual(told["b"], ["c", "m", "r"])
        for one, other in zip(ring, ring[1:] + ring[:1]):
            self.assertIn(other, told[one])

    def test_nobody(self):
        none = dict.fromkeys("abcd")
        self.assertEqual(wants(ROW, {}, none), {})
        self.assertIsNone(ring_of_wants(ROW, {}, {**none, "a": "x"}))

    def test_sixty_rooms(self):
        rooms = [f"r{k:02d}" for k in range(60)]
        row = House(rooms, list(zip(rooms, rooms[1:])))
        placing = {"p": rooms[0], "q": rooms[59]}
        faces = {room: "pq"[k % 2] for k, room in enumerate(rooms)}
        told = wants(row, placing, faces)
        self.assertEqual(told[rooms[30]], rooms[:30])
        self.assertEqual(told[rooms[31]], rooms[32:])
        ring = ring_of_wants(row, placing, faces)
        for one, other in zip(ring, ring[1:] + ring[:1]):
            self.assertIn(other, told[one])


class TestWrong(plain.Checks):
    def test_errors_in_order(self):
        for call in [wants, ring_of_wants]:
            self.raises((errors.HasRing,), call, RING, ENDS, STUCK)
            for thing in plain.odd_things():
                self.raises((errors.BadMap, thing), call, RING, ENDS, thing)
                self.raises((errors.BadMap, thing), call, ROW, ENDS, thing)
                if thing != {}:
                    self.raises((errors.BadPlacing, thing), call, RING, thing, thing)
            same = {"x": "a", "y": "a"}
            self.raises((errors.BadPlacing, same), call, RING, same, None)


if __name__ == "__main__":
    unittest.main()
