"""Point [126], and what [128] says of it."""

import itertools
import random
import unittest

import plain
from lastfaces import errors
from lastfaces.houses import House
from lastfaces.joinings import joined_at, joinings

H = House(["a", "b", "c", "d"], [("a", "b"), ("b", "c"), ("c", "d"), ("d", "a")])
P = {"y": "b", "x": "a"}
F = {"a": "x", "b": "y", "c": "x", "d": "y"}


def plain_rounds(rooms, doors, placing, faces):
    """The lots of people behind each round."""
    taken = list(placing.values())
    told = []
    while True:
        told.append([people for people, _ in plain.plain_lots(doors, placing, taken)])
        more = plain.plain_takable(rooms, doors, placing, faces, taken)
        if not more:
            return told
        taken = taken + more


def first_round(rounds, one, other):
    for number, lots in enumerate(rounds):
        if any({one, other} <= set(people) for people in lots):
            return number
    return None


def plain_joinings(placing, rounds):
    pairs = [(first_round(rounds, one, other), one, other) for one, other in itertools.combinations(sorted(placing), 2)]
    told = []
    for number, one, other in sorted(pair for pair in pairs if pair[0] is not None):
        reached, grown = {one}, True
        while grown:
            more = {b for _, a, b in told if a in reached} | {a for _, a, b in told if b in reached}
            grown = not more <= reached
            reached |= more
        if other not in reached:
            told.append((number, one, other))
    return told


def on_the_way(told, one, other):
    """The greatest round on the way between two people, None if there is no way."""
    ahead = {one: 0}
    queue = [one]
    while queue:
        person = queue.pop()
        for number, a, b in told:
            for near, far in ((a, b), (b, a)):
                if near == person and far not in ahead:
                    ahead[far] = max(ahead[person], number)
                    queue.append(far)
    return ahead.get(other)


class TestJoinings(plain.Checks):
    def judge(self, rooms, doors, placing, faces):
        house = House(rooms, doors)
        rounds = plain_rounds(rooms, doors, placing, faces)
        told = joinings(house, placing, faces)
        self.assertEqual(told, plain_joinings(placing, rounds))
        self.assertTrue(all(type(triple) is tuple for triple in told))
        for one, other in itertools.product(placing, repeat=2):
            number = joined_at(house, placing, faces, one, other)
            self.assertEqual(number, first_round(rounds, one, other))
            self.assertEqual(number, 0 if one == other else on_the_way(told, one, other))
        return told

    def test_example(self):
        self.assertEqual(joined_at(H, P, F, "x", "y"), 0)
        self.assertEqual(joinings(H, P, F), [(0, "x", "y")])

    def test_all_small(self):
        chance = random.Random(1)
        for rooms, doors in plain.small_houses(4):
            for many in range(min(3, len(rooms)) + 1):
                for placing in plain.placings(rooms, ["y", "z", "x"][:many])[::3]:
                    maps = plain.maps(rooms, [None, "x", "y", "z"])
                    for faces in chance.sample(maps, min(len(maps), 8)):
                        self.judge(rooms, doors, placing, faces)

    def test_larger(self):
        chance = random.Random(2)
        found = set()
        for _ in range(150):
            rooms, doors = plain.drawn_house(chance.randint(8, 12), 14, chance)
            placing = dict(zip(["w", "y", "v", "x", "z"], chance.sample(rooms, 5)))
            faces = {room: chance.choice([*placing, *placing, None]) for room in rooms}
            faces.update({room: person for person, room in placing.items() if chance.random() < 0.9})
            told = self.judge(rooms, chance.sample(doors, 12), placing, faces)
            found |= {number for number, _, _ in told}
        self.assertLessEqual({0, 1, 2, 3}, found)

    def test_whatever_the_order(self):
        """All that can be taken in by a round at once being taken, no two are joined earlier in whatever order."""
        chance = random.Random(3)
        for rooms, doors, placing, faces in plain.grown_cases(40, 4, sizes=(5, 6, 7), most=4):
            rounds = plain_rounds(rooms, doors, placing, faces)
            taken = list(placing.values())
            number = 0
            while True:
                people = [lot for lot, _ in plain.plain_lots(doors, placing, taken)]
                for lot in people:
                    for one, other in itertools.combinations(lot, 2):
                        self.assertLessEqual(first_round(rounds, one, other), number)
                more = plain.plain_takable(rooms, doors, placing, faces, taken)
                if not more:
                    break
                taken, number = taken + chance.sample(more, chance.randint(1, len(more))), number + 1

    def test_errors_in_order(self):
        for call in [joinings, lambda *told: joined_at(*told, None, None)]:
            for thing in plain.odd_things():
                if thing != {}:
                    self.raises((errors.BadPlacing, thing), call, H, thing, thing)
                self.raises((errors.BadMap, thing), call, H, P, thing)
        for thing in plain.odd_things() + ["z", "a"]:
            self.raises((errors.NotPlaced, thing), joined_at, H, P, F, thing, "z")
            self.raises((errors.NotPlaced, thing), joined_at, H, P, F, thing, "x")
            self.raises((errors.NotPlaced, thing), joined_at, H, P, F, "x", thing)

    def test_of_any_map(self):
        self.assertEqual(joinings(H, {"x": "a", "y": "c"}, dict(zip("abcd", [None, None, "x", None]))), [])
        self.assertIsNone(joined_at(H, {"x": "a", "y": "c"}, dict(zip("abcd", [None, None, "x", None])), "x", "y"))
        self.assertEqual(joined_at(H, {"x": "a"}, dict(zip("abcd", "yyyy")), "x", "x"), 0)
        self.assertEqual(joinings(H, {}, F), [])

    def test_sixty_rooms(self):
        chance = random.Random(5)
        rooms, doors = plain.drawn_house(60, 62, chance)
        names = [f"p{index:02d}" for index in range(20)]
        placing = dict(zip(names, chance.sample(rooms, 20)))
        faces = plain.grown_map(rooms, doors, placing, chance)
        house = House(rooms, doors)
        told = joinings(house, placing, faces)
        self.assertEqual(told, sorted(told))
        for one, other in [chance.sample(names, 2) for _ in range(60)]:
            self.assertEqual(joined_at(house, placing, faces, one, other), on_the_way(told, one, other))


if __name__ == "__main__":
    unittest.main()
