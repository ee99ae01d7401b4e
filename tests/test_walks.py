"""Points [9], [10], [12] and the walks' limits of [14]."""

import copy
import unittest

import plain
from lastfaces import errors
from lastfaces.houses import House
from lastfaces.walks import first_faces, is_walk, last_faces, stands, turned

RING = House(["a", "b", "c", "d"], [("a", "b"), ("b", "c"), ("c", "d"), ("d", "a")])
START = {"x": "a", "y": "c"}
STEPS = [("x", "b"), ("y", "b"), ("x", "c")]
CALLS = [stands, last_faces, first_faces, turned]


def bad_starts():
    """Any objects that are no start in the ring."""
    names = [{thing: "a"} for thing in ["", "A", "x" * 13, 1, None, True, ("x",), len]]
    rooms = [{"y": "b", "x": thing} for thing in plain.odd_things()]
    return [thing for thing in plain.odd_things() if thing != {}] + names + rooms + ["x", [("x", "a")]]


def bad_steps():
    """Any objects that are no step of somebody whom START places, with all where they are at first."""
    people = [(thing, "b") for thing in plain.odd_things()]
    rooms = [("x", thing) for thing in plain.odd_things()]
    return plain.odd_things() + people + rooms + [
        ("x",), ("x", "b", "b"), "xb", {"x": "b"}, ("x", "c"), ("x", "a"), ("b", "x"), ("z", "b"), [["x"], "b"]]


class TestExample(plain.Checks):
    def test_figures(self):
        self.assertEqual(stands(RING, START, STEPS), {"x": "c", "y": "b"})
        self.assertEqual(last_faces(RING, START, STEPS), {"a": "x", "b": "y", "c": "x", "d": None})
        self.assertEqual(first_faces(RING, START, STEPS), {"a": "x", "b": "x", "c": "y", "d": None})
        back = ({"x": "c", "y": "b"}, [("x", "b"), ("y", "c"), ("x", "a")])
        self.assertEqual(turned(RING, START, STEPS), back)
        self.assertTrue(is_walk(RING, START, STEPS))


class TestTold(plain.Checks):
    def test_nobody(self):
        nobody = {"a": None, "b": None, "c": None, "d": None}
        self.assertIs(is_walk(RING, {}, []), True)
        self.assertEqual([call(RING, {}, ()) for call in CALLS], [{}, nobody, nobody, ({}, [])])

    def test_kinds_and_order(self):
        start = {"y": "c", "x": "a"}
        for steps in plain.both_kinds(STEPS):
            self.assertIs(is_walk(RING, start, steps), True)
            self.assertEqual(list(stands(RING, start, steps)), ["x", "y"])
            for call in [last_faces, first_faces]:
                self.assertEqual(list(call(RING, start, steps)), ["a", "b", "c", "d"])
            told = turned(RING, start, steps)
            self.assertEqual((type(told), type(told[1]), list(told[0])), (tuple, list, ["x", "y"]))
            self.assertTrue(all(type(step) is tuple for step in told[1]))
            self.assertEqual(told, turned(RING, START, STEPS))

    def test_unchanged_and_new(self):
        start, steps = dict(START), [list(step) for step in STEPS]
        for call in CALLS:
            told = call(RING, start, steps)
            kept = copy.deepcopy(told)
            for part in told if isinstance(told, tuple) else [told]:
                part.clear()
            self.assertEqual(call(RING, start, steps), kept)
        told = turned(RING, start, [])
        told[0]["x"] = "d"
        self.assertEqual((start, steps), (START, [list(step) for step in STEPS]))


class TestWrong(plain.Checks):
    def test_bad_start(self):
        for thing in bad_starts():
            self.assertIs(is_walk(RING, thing, []), False)
            for call in CALLS:
                self.raises((errors.BadStart, thing), call, RING, thing, [])
                self.raises((errors.BadStart, thing), call, RING, thing, None)

    def test_bad_steps(self):
        for call in CALLS:
            for thing in plain.no_lists():
                self.assertIs(is_walk(RING, START, thing), False)
                self.raises((errors.BadSteps, 0), call, RING, START, thing)
            for thing in bad_steps():
                self.assertIs(is_walk(RING, START, [thing]), False)
                self.raises((errors.BadSteps, 0), call, RING, START, [thing])
                steps = (("y", "d"), ["x", "b"], ["x", "a"], thing, None)
                self.assertIs(is_walk(RING, START, steps), False)
                self.raises((errors.BadSteps, 3), call, RING, START, steps)
        for bad, index in [([("x", "b"), ("x", "b")], 1), ([("x", "b"), ("x", "d")], 1), ([("y", "a")], 0)]:
            self.assertIs(is_walk(RING, START, bad), False)
            self.raises((errors.BadSteps, index), stands, RING, START, bad)

    def test_crowded(self):
        crowd = {"x": "d", "z": "b", "y": "d", "w": "b", "v": "a"}
        self.raises((errors.Crowded, "b"), last_faces, RING, crowd, [])
        self.raises((errors.Crowded, "b"), first_faces, RING, crowd, [("z", "a")])
        self.raises((errors.Crowded, "a"), last_faces, RING, crowd, [("z", "a")])
        self.assertEqual(stands(RING, crowd, []), {"v": "a", "w": "b", "x": "d", "y": "d", "z": "b"})
        self.assertEqual(turned(RING, crowd, []), (stands(RING, crowd, []), []))
        for call in [last_faces, first_faces]:
            self.raises((errors.BadSteps, 0), call, RING, crowd, [("z", "d")])
        away = {"x": "d", "y": "d"}
        self.assertEqual(last_faces(RING, away, [("x", "a")])["d"], "y")
        self.assertEqual(first_faces(RING, {"x": "a", "y": "d"}, [("x", "d")])["d"], "y")


class TestAllWalks(plain.Checks):
    def walks(self):
        """All short walks in small houses."""
        for rooms, doors in plain.small_houses():
            for start in plain.starts(rooms, ["x", "y"]) + plain.starts(rooms, ["z"]):
                for steps in plain.all_walks(doors, start, 3):
                    yield rooms, doors, start, steps

    def hold(self, call, house, start, steps, wanted):
        """Asserts that faces are wanted ones, or that the first room with a list of people is crowded."""
        crowded = [room for room in sorted(wanted) if isinstance(wanted[room], list)]
        if crowded:
            self.raises((errors.Crowded, crowded[0]), call, house, start, steps)
        else:
            self.assertEqual(call(house, start, steps), wanted)

    def test_all(self):
        for rooms, doors, start, steps in self.walks():
            house = House(rooms, doors)
            times = plain.gone_through(start, steps)
            self.assertTrue(is_walk(house, start, steps))
            self.assertEqual(stands(house, start, steps), times[-1])
            last, first = plain.plain_faces(rooms, times), plain.plain_faces(rooms, times[::-1])
            self.hold(last_faces, house, start, steps, last)
            self.hold(first_faces, house, start, steps, first)
            back = turned(house, start, steps)
            self.assertEqual(plain.gone_through(*back), times[::-1])
            self.hold(first_faces, house, *back, last)
            self.hold(last_faces, house, *back, first)

    def test_facts(self):
        for rooms, doors, start, steps in self.walks():
            times = plain.gone_through(start, steps)
            faces = plain.plain_faces(rooms, times)
            if any(isinstance(face, list) for face in faces.values()):
                continue
            at_last = times[-1]
            self.assertTrue(all(faces[at_last[person]] == person for person in at_last))
            left = {room: max([k for k, where in enumerate(times) if room in where.values()], default=-1)
                    for room in rooms}
            for room in rooms:
                if faces[room] is not None and at_last[faces[room]] != room:
                    beside = plain.near(doors, room)
                    self.assertTrue(any(left[near] > left[room] or near in at_last.values() for near in beside))

    def test_all_steps_tried(self):
        for rooms, doors in plain.small_houses(3):
            house = House(rooms, doors)
            for start in plain.starts(rooms, ["x", "y"]):
                tried = [(p, room) for p in ["x", "y"] for room in rooms]
                for one in tried:
                    right = one[1] in plain.near(doors, start[one[0]])
                    self.assertEqual(is_walk(house, start, [one]), right)
                    for other in tried if right else []:
                        where = {**start, one[0]: one[1]}
                        right_too = other[1] in plain.near(doors, where[other[0]])
                        self.assertEqual(is_walk(house, start, (one, other)), right_too)


class TestLimits(plain.Checks):
    def test_five_hundred_steps(self):
        rooms = [f"r{k:02d}" for k in range(60)]
        house = House(rooms, [(rooms[k], rooms[k + 1]) for k in range(59)] + [(rooms[59], rooms[0])])
        people = [f"p{k:02d}" for k in range(20)]
        start = {person: rooms[3 * k] for k, person in enumerate(people)}
        steps = [(people[k % 20], rooms[(3 * (k % 20) + k // 20 + 1) % 60]) for k in range(500)]
        self.assertEqual(len(steps), 500)
        times = plain.gone_through(start, steps)
        self.assertEqual(stands(house, start, steps), times[-1])
        self.assertEqual(last_faces(house, start, steps), plain.plain_faces(rooms, times))
        self.assertEqual(first_faces(house, start, steps), plain.plain_faces(rooms, times[::-1]))
        self.assertEqual(plain.gone_through(*turned(house, start, steps)), times[::-1])


if __name__ == "__main__":
    unittest.main()
