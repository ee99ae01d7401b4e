"""Points [62] and [63], and what [66] says of them."""

import random
import unittest

import plain
from lastfaces import errors
from lastfaces.fewsteps import fewest_steps, short_walk, spans_wanted
from lastfaces.houses import House
from lastfaces.therule import why_not

E = House(["c", "p", "q", "u", "w", "x", "y", "z"],
          [("c", "x"), ("c", "u"), ("x", "p"), ("x", "w"), ("w", "y"), ("u", "z"), ("z", "q")])
P = {"a": "c", "b": "q", "d": "p"}
F = {"c": "a", "x": "a", "y": "a", "z": "a", "q": "b", "w": "b", "p": "d", "u": "d"}
RING = House(["a", "b", "c", "d"], [("a", "b"), ("b", "c"), ("c", "d"), ("d", "a")])


def plain_spans(doors, placing, faces):
    """Twice the doors of the least part with all rooms that show a person, less the doors to the farthest of them."""
    told = {}
    for person in sorted(placing):
        own = placing[person]
        parted = {own: []}
        queue = [own]
        for room in queue:
            for further in plain.near(doors, room):
                if further not in parted:
                    parted[further] = parted[room] + [frozenset((room, further))]
                    queue.append(further)
        ways = [parted[room] for room in faces if faces[room] == person]
        told[person] = 2 * len({door for gone in ways for door in gone}) - max(len(gone) for gone in ways)
    return told


class TestExample(plain.Checks):
    def test_figures(self):
        self.assertEqual(spans_wanted(E, P, F), {"a": 7, "b": 5, "d": 3})
        self.assertEqual(fewest_steps(E, P, F), 17)


class TestSteps(plain.Checks):
    def judge(self, rooms, doors, placing, faces, many):
        house = House(rooms, doors)
        self.assertEqual(fewest_steps(house, placing, faces), many)
        walk = short_walk(house, placing, faces)
        self.judge_walk(rooms, doors, walk, placing, faces)
        self.assertEqual(len(walk[1]), many)
        again = House(rooms[::-1], doors[::-1])
        self.assertEqual(short_walk(again, plain.other_order(placing), plain.other_order(faces)), walk)
        if plain.is_forest(rooms, doors):
            spans = spans_wanted(house, placing, faces)
            self.assertEqual(spans, plain_spans(doors, placing, faces))
            self.assertEqual(list(spans), sorted(placing))
            self.assertLessEqual(sum(spans.values()), many)
        else:
            self.raises((errors.HasRing,), spans_wanted, house, placing, faces)

    def hold(self, houses, people, every):
        for rooms, doors in houses:
            costs = plain.walked_costs(rooms, doors, people, lambda ahead, person: 1)
            for where, last in sorted(costs, key=str)[::every]:
                self.judge(rooms, doors, dict(zip(people, where)), dict(zip(rooms, last)), costs[where, last])

    def test_all_walks(self):
        self.hold(plain.small_houses(3), [], 1)
        self.hold(plain.small_houses() + plain.five_room_houses(), ["x"], 1)
        self.hold(plain.small_houses(3), ["y", "x"], 1)
        self.hold(plain.small_houses()[-10:], ["y", "x"], 2)
        self.hold(plain.small_houses()[-10::3], ["z", "y", "x"], 3)
        self.hold(plain.five_room_houses()[:4], ["y", "x"], 19)

    def test_steps_of_one_person(self):
        """In all walks each person has at least so many steps as its span."""
        for rooms, doors in [case for case in plain.small_houses() if plain.is_forest(*case)]:
            people = ["y", "x"][:len(rooms)]
            for person in people:
                costs = plain.walked_costs(rooms, doors, people, lambda ahead, other: other == person)
                for where, last in sorted(costs, key=str)[::3]:
                    placing, faces = dict(zip(people, where)), dict(zip(rooms, last))
                    least = spans_wanted(House(rooms, doors), placing, faces)[person]
                    self.assertLessEqual(least, costs[where, last])

    def test_errors_in_order(self):
        for thing in plain.odd_things():
            for call in [fewest_steps, short_walk, spans_wanted]:
                for house in (E, RING):
                    if thing != {}:
                        self.raises((errors.BadPlacing, thing), call, house, thing, thing)
                    self.raises((errors.BadMap, thing), call, house, {}, thing)
        for call in [fewest_steps, short_walk, spans_wanted]:
            for placing, faces in [({}, F), (P, {**F, "c": "b"}), (P, {**F, "x": None})]:
                with self.assertRaises(errors.NoWalks) as caught:
                    call(E, placing, faces)
                self.assertEqual(caught.exception.why, why_not(E, placing, faces))
            with self.assertRaises(errors.NoWalks):
                call(RING, {}, dict.fromkeys("abcd", "x"))
        self.raises((errors.HasRing,), spans_wanted, RING, {}, dict.fromkeys("abcd"))

    def test_nobody(self):
        self.assertEqual(fewest_steps(E, {}, dict.fromkeys(F)), 0)
        self.assertEqual(short_walk(E, {}, dict.fromkeys(F)), ({}, []))
        self.assertEqual(spans_wanted(E, {}, dict.fromkeys(F)), {})
        self.assertEqual(spans_wanted(E, {"a": "q"}, {**dict.fromkeys(F), "q": "a"}), {"a": 0})


class TestLimits(plain.Checks):
    def test_eight_rooms(self):
        chance = random.Random(65)
        for many in (7, 9, 14, 28):
            for people in ("x", "xy", "xyz"):
                rooms, doors = plain.drawn_house(8, many, chance)
                placing = dict(zip(people, chance.sample(rooms, len(people))))
                faces = plain.grown_map(rooms, doors, placing, chance)
                walk = short_walk(House(rooms, doors), placing, faces)
                self.judge_walk(rooms, doors, walk, placing, faces)
                self.assertEqual(fewest_steps(House(rooms, doors), placing, faces), len(walk[1]))

    def test_sixty_rooms(self):
        chance = random.Random(66)
        rooms, doors = plain.drawn_house(60, 59, chance)
        placing = {f"p{k:02d}": room for k, room in enumerate(chance.sample(rooms, 20))}
        faces = plain.grown_map(rooms, doors, placing, chance)
        self.assertEqual(spans_wanted(House(rooms, doors), placing, faces), plain_spans(doors, placing, faces))


if __name__ == "__main__":
    unittest.main()
