"""Points [59] and [61], and what [66] says of them."""

import itertools
import random
import unittest

import plain
from lastfaces import errors
from lastfaces.houses import House
from lastfaces.takings import first_left
from lastfaces.therule import why_not
from lastfaces.turns import fewest_turns, first_row, turns_of, walk_in_turns

E = House(["c", "p", "q", "u", "w", "x", "y", "z"],
          [("c", "x"), ("c", "u"), ("x", "p"), ("x", "w"), ("w", "y"), ("u", "z"), ("z", "q")])
P = {"a": "c", "b": "q", "d": "p"}
F = {"c": "a", "x": "a", "y": "a", "z": "a", "q": "b", "w": "b", "p": "d", "u": "d"}
CALLS = [fewest_turns, walk_in_turns, first_row]


def parted(steps):
    """The people of steps, turn by turn."""
    return [person for person, _ in itertools.groupby(steps, key=lambda step: step[0])]


class TestExample(plain.Checks):
    def test_figures(self):
        self.assertEqual(fewest_turns(E, P, F), 5)
        self.assertEqual(first_row(E, P, F), ["a", "d", "a", "b", "a"])


class TestTurnsOf(plain.Checks):
    def test_all_walks(self):
        for rooms, doors in plain.small_houses(3):
            for start in plain.starts(rooms, ["y", "x"]):
                for steps in plain.all_walks(doors, start, 3):
                    for told in plain.both_kinds(steps):
                        self.assertEqual(turns_of(House(rooms, doors), start, told), parted(steps))

    def test_longer(self):
        steps = [("a", "x"), ("a", "c"), ("b", "z"), ("a", "u"), ("d", "x"), ("d", "p"), ("a", "c")]
        self.assertEqual(turns_of(E, P, steps), ["a", "b", "a", "d", "a"])
        self.assertEqual(turns_of(E, P, []), [])
        self.assertEqual(turns_of(E, {}, ()), [])

    def test_errors_in_order(self):
        for thing in plain.odd_things():
            if thing != {}:
                self.raises((errors.BadStart, thing), turns_of, E, thing, thing)
            self.raises((errors.BadSteps, 1), turns_of, E, P, [("a", "x"), thing, None])
            self.raises((errors.BadSteps, 0), turns_of, E, P, [("a", thing)])
        for thing in plain.no_lists():
            self.raises((errors.BadSteps, 0), turns_of, E, P, thing)


class TestFewest(plain.Checks):
    def judge(self, rooms, doors, placing, faces, many=None):
        """Against all rows of turns, and the fewest turns of all walks where these are told."""
        house = House(rooms, doors)
        told = fewest_turns(house, placing, faces)
        if many is not None:
            self.assertEqual(told, many)
        enough = []
        for row in itertools.product(sorted(placing), repeat=told):
            if first_left(house, placing, faces, row) is None:
                enough.append(list(row))
        self.assertEqual(first_row(house, plain.other_order(placing), faces), enough[0])
        if told:
            for row in itertools.product(sorted(placing), repeat=told - 1):
                self.assertIsNotNone(first_left(house, placing, faces, row))
        walk = walk_in_turns(house, placing, faces)
        self.judge_walk(rooms, doors, walk, placing, faces)
        self.assertEqual(len(parted(walk[1])), told)
        self.assertEqual(turns_of(house, *walk), parted(walk[1]))
        again = House(rooms[::-1], doors[::-1])
        self.assertEqual(walk_in_turns(again, plain.other_order(placing), plain.other_order(faces)), walk)

    def hold(self, houses, people, every):
        for rooms, doors in houses:
            costs = plain.walked_costs(rooms, doors, people, lambda ahead, person: ahead != person)
            for where, last in sorted(costs, key=str)[::every]:
                placing, faces = dict(zip(people, where)), dict(zip(rooms, last))
                self.judge(rooms, doors, placing, faces, costs[where, last])

    def test_all_walks(self):
        self.hold(plain.small_houses(3), [], 1)
        self.hold(plain.small_houses(), ["x"], 1)
        self.hold(plain.small_houses(3), ["y", "x"], 1)
        self.hold(plain.small_houses()[-10:], ["y", "x"], 4)
        self.hold(plain.small_houses()[-10::3], ["z", "y", "x"], 9)
        self.hold(plain.five_room_houses()[:4:3], ["y", "x"], 29)

    def test_larger_houses(self):
        for case in plain.grown_cases(60, 61, (6, 7), 3):
            self.judge(*case)
        # People who stand beside one another take in rooms of all: so more turns are wanted.
        chance = random.Random(60)
        found = []
        for _ in range(400):
            rooms, doors = plain.drawn_house(9, chance.choice([8, 8, 9, 10]), chance)
            placing = dict(zip(chance.sample(["q", "p", "r"], chance.randint(2, 3)), rooms))
            if plain.component(doors, list(placing.values()), rooms[0]) == set(placing.values()):
                faces = plain.grown_map(rooms, doors, placing, chance)
                self.judge(rooms, doors, placing, faces)
                found.append(fewest_turns(House(rooms, doors), placing, faces))
        self.assertGreater(sum(many >= 4 for many in found), 20)

    def test_two_rows_of_two_people(self):
        """Of two people, neither having two turns one behind another, there are but two rows of a length to try."""
        for rooms, doors, placing, faces in plain.grown_cases(150, 62, (6, 7), 2):
            house = House(rooms, doors)
            names = sorted(placing)
            rows = [[names[(first + at) % len(names)] for at in range(fewest_turns(house, placing, faces))]
                    for first in range(len(names))]
            if len(names) == 2 or len(rows[0]) < 2:
                self.assertIn(first_row(house, placing, faces), rows)

    def test_errors_in_order(self):
        for thing in plain.odd_things():
            for call in CALLS:
                if thing != {}:
                    self.raises((errors.BadPlacing, thing), call, E, thing, thing)
                self.raises((errors.BadMap, thing), call, E, P, thing)
        for placing, faces in [({}, F), (P, {**F, "c": "b"}), (P, {**F, "x": None}), ({"a": "c"}, F)]:
            for call in CALLS:
                with self.assertRaises(errors.NoWalks) as caught:
                    call(E, placing, faces)
                self.assertEqual(caught.exception.why, why_not(E, placing, faces))

    def test_nobody(self):
        none = dict.fromkeys(F)
        self.assertEqual(fewest_turns(E, {}, none), 0)
        self.assertEqual(walk_in_turns(E, {}, none), ({}, []))
        self.assertEqual(first_row(E, {}, none), [])
        self.assertEqual(walk_in_turns(E, {"a": "c"}, {**none, "c": "a"}), ({"a": "c"}, []))


class TestLimits(plain.Checks):
    def judge(self, rooms, doors, placing, faces):
        house = House(rooms, doors)
        many = fewest_turns(house, placing, faces)
        row = first_row(house, placing, faces)
        self.assertEqual(len(row), many)
        self.assertIsNone(first_left(house, placing, faces, row))
        self.assertIsNotNone(first_left(house, placing, faces, row[:-1]) if row else 0)
        walk = walk_in_turns(house, placing, faces)
        self.judge_walk(rooms, doors, walk, placing, faces)
        self.assertEqual(len(parted(walk[1])), many)
        return many

    def test_sixty_rooms(self):
        rooms = [f"r{k:02d}" for k in range(60)]
        row = list(zip(rooms, rooms[1:]))
        faces = {room: "xy"[k % 2] for k, room in enumerate(rooms)}
        self.assertEqual(self.judge(rooms, row, {"x": rooms[0], "y": rooms[1]}, faces), 58)
        self.assertEqual(first_row(House(rooms, row), {"x": rooms[0], "y": rooms[1]}, faces), ["x", "y"] * 29)
        self.assertEqual(self.judge(rooms, row, {"x": rooms[9]}, dict.fromkeys(rooms, "x")), 1)
        chance = random.Random(63)
        for many in (59, 80, 200):
            rooms, doors = plain.drawn_house(60, many, chance)
            placing = dict(zip(["x", "y"], chance.sample(rooms, 2)))
            self.judge(rooms, doors, placing, plain.grown_map(rooms, doors, placing, chance))

    def test_four_people(self):
        chance = random.Random(64)
        found = set()
        for many in (19, 19, 19, 22, 22, 30, 30):
            rooms, doors = plain.drawn_house(20, many, chance)
            placing = dict(zip("abcd", chance.sample(rooms, 4)))
            found.add(self.judge(rooms, doors, placing, plain.grown_map(rooms, doors, placing, chance)))
        self.assertGreater(max(found), 4)
        # A row in which all of four take turns, each time all that they can: eight turns.
        rooms = [f"r{k:02d}" for k in range(20)]
        doors = list(zip(rooms, rooms[1:]))
        faces = dict(zip(rooms, "abcd" + "aa" + "bb" + "cc" + "dd" + "aa" + "bb" + "cc" + "dd"))
        self.assertEqual(self.judge(rooms, doors, dict(zip("abcd", rooms)), faces), 8)
        self.assertEqual(first_row(House(rooms, doors), dict(zip("abcd", rooms)), faces), list("abcdabcd"))


if __name__ == "__main__":
    unittest.main()
