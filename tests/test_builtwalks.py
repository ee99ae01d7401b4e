"""Points [17] and [20], and walk_for's limit of [23]."""

import copy
import itertools
import unittest

import plain
from lastfaces import errors
from lastfaces.builtwalks import walk_fault, walk_for
from lastfaces.houses import House
from lastfaces.therule import is_why, why_not
from lastfaces.walks import last_faces, stands

RING = House(["a", "b", "c", "d"], [("a", "b"), ("b", "c"), ("c", "d"), ("d", "a")])
PLACING = {"x": "c", "y": "b"}
FACES = {"a": "x", "b": "y", "c": "x", "d": None}
START = {"x": "a", "y": "c"}
STEPS = [("x", "b"), ("y", "b"), ("x", "c")]


class TestWalkFor(plain.Checks):
    def judge(self, rooms, doors, placing, faces):
        """Asserts that there is just one of a walk, which ends as it should, and a paper; returns the walk."""
        house = House(rooms, doors)
        walk = walk_for(house, placing, faces)
        why = why_not(house, placing, faces)
        self.assertIs(walk is None, why is not None)
        if walk is None:
            self.assertTrue(is_why(house, placing, faces, why))
            return walk
        start, steps = walk
        self.assertEqual((type(walk), type(start), type(steps)), (tuple, dict, list))
        self.assertEqual(list(start), sorted(placing))
        self.assertTrue(all(type(step) is tuple for step in steps))
        self.assertLessEqual(len(steps), len(rooms) ** 2)
        times = plain.gone_through(start, steps)
        for (person, room), where in zip(steps, times):
            self.assertIn(room, plain.near(doors, where[person]))
        self.assertEqual(times[-1], placing)
        self.assertEqual(plain.plain_faces(rooms, times), faces)
        self.assertIsNone(walk_fault(house, placing, faces, start, steps))
        return walk

    def hold(self, houses, most, every, strangers=()):
        for rooms, doors in houses:
            for many in range(most + 1):
                people = ["y", "x", "z"][:many]
                for placing in plain.placings(rooms, people):
                    told = plain.maps(rooms, [None, *people, *strangers])
                    for faces in itertools.islice(told, 0, None, every):
                        self.judge(rooms, doors, placing, faces)

    def test_small_houses(self):
        self.hold(plain.small_houses(3), 3, 1, ["w"])
        self.hold(plain.small_houses()[-11:], 2, 1)
        self.hold(plain.small_houses()[-11:], 3, 13)

    def test_five_rooms(self):
        self.hold(plain.five_room_houses(), 2, 7)
        self.hold(plain.five_room_houses(), 3, 211)

    def test_same_for_other_orders(self):
        rooms, doors = plain.five_room_houses()[3]
        for placing in plain.placings(rooms, ["y", "x"]):
            for faces in plain.maps(rooms, ["x", "y"]):
                walk = walk_for(House(rooms, doors), placing, faces)
                again = House(rooms[::-1], tuple(door[::-1] for door in doors[::-1]))
                self.assertEqual(walk_for(again, plain.other_order(placing), plain.other_order(faces)), walk)

    def test_one_room_and_nobody(self):
        self.assertEqual(self.judge(["a"], [], {"x": "a"}, {"a": "x"}), ({"x": "a"}, []))
        self.assertEqual(self.judge(["a", "b"], [], {}, {"a": None, "b": None}), ({}, []))
        self.assertIsNone(self.judge(["a", "b"], [], {}, {"a": "x", "b": None}))

    def test_new_and_unchanged(self):
        placing, faces = dict(PLACING), dict(FACES)
        walk = walk_for(RING, placing, faces)
        kept = copy.deepcopy(walk)
        walk[0].clear()
        walk[1].clear()
        self.assertEqual(walk_for(RING, placing, faces), kept)
        self.assertEqual((list(placing.items()), list(faces.items())), (list(PLACING.items()), list(FACES.items())))

    def test_what_was_told_may_be_passed_on(self):
        start, steps = walk_for(RING, PLACING, FACES)
        self.assertEqual(stands(RING, start, steps), PLACING)
        self.assertEqual(last_faces(RING, start, steps), FACES)

    def test_twenty_rooms(self):
        rooms = [f"r{k:02d}" for k in range(20)]
        row = list(zip(rooms, rooms[1:]))
        full = list(itertools.combinations(rooms, 2))
        for doors in [row, row + [(rooms[0], rooms[-1])], [(rooms[0], room) for room in rooms[1:]], full]:
            for people in [1, 2, 3, 20]:
                names = [f"p{k:02d}" for k in range(people)]
                placing = dict(zip(names, rooms))
                faces = {room: names[k % people] for k, room in enumerate(rooms)}
                walk = self.judge(rooms, doors, placing, faces)
                if doors is not row:
                    self.assertEqual(len(walk[0]), people)
        # Two people take turns along a row, so that each comes back as far as it can.
        placing = {"p": rooms[10], "q": rooms[9]}
        for shift in range(2):
            faces = {room: "pq"[(k + shift) % 2] for k, room in enumerate(rooms)}
            faces.update({rooms[10]: "p", rooms[9]: "q"})
            self.assertIsNotNone(self.judge(rooms, row, placing, faces))


class TestWalkFault(plain.Checks):
    def test_figures(self):
        self.assertIsNone(walk_fault(RING, PLACING, FACES, START, STEPS))
        for steps in plain.both_kinds(STEPS):
            self.assertIsNone(walk_fault(RING, PLACING, FACES, START, steps))
            self.assertEqual(walk_fault(RING, PLACING, {**FACES, "d": "x", "c": None}, START, steps), ("face", "c"))
            self.assertEqual(walk_fault(RING, {"x": "c", "y": "a"}, FACES, START, steps), ("stands", "y"))
        self.assertIs(type(walk_fault(RING, PLACING, {**FACES, "d": "x"}, START, STEPS)), tuple)

    def test_stands(self):
        more = {**START, "z": "d"}
        self.assertEqual(walk_fault(RING, PLACING, FACES, more, STEPS), ("stands", "z"))
        self.assertEqual(walk_fault(RING, {**PLACING, "w": "d"}, FACES, more, STEPS), ("stands", "w"))
        self.assertEqual(walk_fault(RING, {**PLACING, "y": "a", "w": "d"}, FACES, START, STEPS), ("stands", "w"))
        self.assertEqual(walk_fault(RING, {}, FACES, START, STEPS), ("stands", "x"))
        self.assertEqual(walk_fault(RING, PLACING, FACES, {}, []), ("stands", "x"))
        # People who stand in one room at last do not stand as a placing tells.
        self.assertEqual(walk_fault(RING, PLACING, FACES, {"x": "b", "y": "b"}, []), ("stands", "x"))
        self.assertEqual(walk_fault(RING, {"x": "b", "y": "a"}, FACES, {"x": "b", "y": "b"}, []), ("stands", "y"))

    def test_all_short_walks(self):
        for rooms, doors in plain.small_houses(3):
            house = House(rooms, doors)
            for start in plain.starts(rooms, ["x", "y"]):
                for steps in plain.all_walks(doors, start, 2):
                    times = plain.gone_through(start, steps)
                    last = plain.plain_faces(rooms, times)
                    for placing in plain.placings(rooms, ["x", "y"]) + plain.placings(rooms, ["x"]):
                        for faces in plain.maps(rooms, ["x", "y", None])[::4]:
                            wanted = self.wanted(rooms, placing, faces, times[-1], last)
                            self.assertEqual(walk_fault(house, placing, faces, start, steps), wanted)

    def wanted(self, rooms, placing, faces, at_last, last):
        for person in ["x", "y"]:
            if placing.get(person) != at_last.get(person):
                return "stands", person
        for room in sorted(rooms):
            if last[room] != faces[room]:
                return "face", room
        return None

    def test_errors_in_order(self):
        bad = {"x": 1}
        self.raises((errors.BadPlacing, bad), walk_fault, RING, bad, bad, bad, bad)
        self.raises((errors.BadMap, bad), walk_fault, RING, PLACING, bad, bad, bad)
        self.raises((errors.BadStart, bad), walk_fault, RING, PLACING, FACES, bad, bad)
        self.raises((errors.BadSteps, 0), walk_fault, RING, PLACING, FACES, START, bad)
        self.raises((errors.BadSteps, 1), walk_fault, RING, PLACING, FACES, START, [("x", "b"), ("x", "b")])
        # Steps that cannot be gone are told ahead of people who stand elsewhere.
        self.raises((errors.BadSteps, 0), walk_fault, RING, {}, FACES, START, [("z", "b")])

    def test_any_objects(self):
        for thing in plain.odd_things():
            if thing != {}:
                self.raises((errors.BadPlacing, thing), walk_for, RING, thing, FACES)
                self.raises((errors.BadPlacing, thing), walk_fault, RING, thing, FACES, START, STEPS)
                self.raises((errors.BadStart, thing), walk_fault, RING, PLACING, FACES, thing, STEPS)
            self.raises((errors.BadMap, thing), walk_for, RING, PLACING, thing)
            self.raises((errors.BadMap, thing), walk_fault, RING, PLACING, thing, START, STEPS)
            self.raises((errors.BadSteps, 1), walk_fault, RING, PLACING, FACES, START, [("x", "b"), thing])
        for thing in plain.no_lists():
            self.raises((errors.BadSteps, 0), walk_fault, RING, PLACING, FACES, START, thing)


if __name__ == "__main__":
    unittest.main()
