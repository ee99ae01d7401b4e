"""Points [64] and [65], and what [66] says of them."""

import itertools
import math
import random
import unittest

import plain
from lastfaces import errors
from lastfaces.alone import count_alone, count_through, steps_alone, steps_through
from lastfaces.alonenumbers import through_at, through_number
from lastfaces.houses import House

T = House(["a", "b", "c", "d"], [("a", "b"), ("b", "c"), ("b", "d")])
RING = House(["a", "b", "c", "d"], [("a", "b"), ("b", "c"), ("c", "d"), ("d", "a")])
APART = House(["a", "b", "c", "d"], [("a", "b"), ("c", "d")])
RING_APART = House(["a", "b", "c", "d"], [("a", "b"), ("b", "c"), ("c", "a")])


def trees():
    """Houses without rings that hang together."""
    houses = plain.small_houses() + plain.five_room_houses()
    return [(rooms, doors) for rooms, doors in houses
            if plain.is_forest(rooms, doors) and len(doors) == len(rooms) - 1]


def seeing_walks(rooms, doors, first, most):
    """The walks of one alone from a room through all rooms, with at most so many steps, as lists of rooms."""
    rows = [[first]]
    for row in rows:
        if len(row) <= most:
            rows.extend(row + [room] for room in plain.near(doors, row[-1]))
    return [row for row in rows if set(row) == set(rooms)]


def seeing_steps(rooms, doors, last, most):
    """All numbers of steps, up to most, of walks of one alone through all rooms that end in a room."""
    found = set()
    states = {(room, frozenset([room])) for room in rooms}
    for many in range(most + 1):
        if (last, frozenset(rooms)) in states:
            found.add(many)
        states = {(further, seen | {further}) for room, seen in states for further in plain.near(doors, room)}
    return found


class TestExample(plain.Checks):
    def test_figures(self):
        self.assertEqual(steps_alone(T, "b"), 5)
        self.assertEqual(steps_through(T, "a", "c"), 4)
        self.assertEqual(count_through(T, "b", "b"), 6)
        self.assertEqual(through_at(T, "b", "b", 1), ["b", "a", "b", "d", "b", "c", "b"])
        self.assertEqual(count_alone(T, "b"), 6)


class TestAlone(plain.Checks):
    def test_all_walks(self):
        for rooms, doors in trees():
            house = House(rooms, doors)
            shortest = {}
            for first in rooms:
                for row in seeing_walks(rooms, doors, first, 2 * (len(rooms) - 1)):
                    shortest.setdefault((first, row[-1]), []).append(row)
            for (first, last), rows in shortest.items():
                least = min(len(row) for row in rows)
                rows = sorted(row for row in rows if len(row) == least)
                shortest[first, last] = rows
                self.assertEqual(steps_through(house, first, last), least - 1)
                self.assertEqual(count_through(house, first, last), len(rows))
                for number, row in enumerate(rows):
                    self.assertEqual(through_at(house, first, last, number), row)
                    self.assertEqual(through_number(house, tuple(row)), number)
                self.raises((errors.BadNumber, len(rows)), through_at, house, first, last, len(rows))
            self.assertEqual(len(shortest), len(rooms) ** 2)
            for last in rows[0]:
                self.judge_alone(house, rooms, last, [shortest[first, last] for first in rooms])

    def judge_alone(self, house, rooms, last, told):
        least = min(len(rows[0]) for rows in told)
        self.assertEqual(steps_alone(house, last), least - 1)
        self.assertEqual(count_alone(house, last), sum(len(rows) for rows in told if len(rows[0]) == least))

    def test_each_greater_number(self):
        for rooms, doors in trees():
            for last in rooms:
                least = steps_alone(House(rooms, doors), last)
                wanted = range(least, least + 6) if len(rooms) > 1 else [0]
                self.assertEqual(seeing_steps(rooms, doors, last, least + 5), set(wanted))

    def test_by_the_words(self):
        """The numbers as [64] and [65] tell them, in larger houses."""
        chance = random.Random(67)
        for _ in range(30):
            rooms, doors = self.tree(chance)
            house = House(rooms, doors)
            ahead = {first: self.ahead_from(doors, first) for first in rooms}
            for first, last in itertools.product(rooms, repeat=2):
                way = [last]
                while way[-1] != first:
                    way.append(ahead[first][way[-1]])
                self.assertEqual(steps_through(house, first, last), 2 * (len(rooms) - 1) - (len(way) - 1))
                many = 1
                for room in rooms:
                    branches = len([further for further in ahead[first] if ahead[first][further] == room])
                    many *= math.factorial(branches - (room in way[1:]))
                self.assertEqual(count_through(house, first, last), many)

    def tree(self, chance):
        size = chance.randint(5, 12)
        return plain.drawn_house(size, size - 1, chance)

    def ahead_from(self, doors, first):
        """By rooms, seen from a room, the room ahead."""
        ahead = {first: None}
        queue = [first]
        for room in queue:
            for further in plain.near(doors, room):
                if further not in ahead:
                    ahead[further] = room
                    queue.append(further)
        return ahead

    def test_numbers(self):
        chance = random.Random(68)
        for _ in range(20):
            rooms, doors = self.tree(chance)
            house = House(rooms, doors)
            first, last = chance.choice(rooms), chance.choice(rooms)
            many = count_through(house, first, last)
            numbers = sorted({0, many // 3, many // 2, many - 1, min(1, many - 1)})
            rows = [through_at(house, first, last, number) for number in numbers]
            self.assertEqual(sorted(rows), rows)
            for number, row in zip(numbers, rows):
                self.assertEqual(through_number(house, row), number)
                self.assertEqual((row[0], row[-1], set(row)), (first, last, set(rooms)))
                self.assertEqual(len(row) - 1, steps_through(house, first, last))
                self.assertTrue(all(room in plain.near(doors, other) for room, other in zip(row, row[1:])))

    def test_one_room(self):
        house = House(["a"], [])
        self.assertEqual((steps_alone(house, "a"), steps_through(house, "a", "a")), (0, 0))
        self.assertEqual((count_alone(house, "a"), count_through(house, "a", "a")), (1, 1))
        self.assertEqual(through_at(house, "a", "a", 0), ["a"])
        self.assertEqual(through_number(house, ["a"]), 0)
        for thing in [[], ["a", "a"], ["b"], "a", None]:
            self.assertIsNone(through_number(house, thing))


class TestWrong(plain.Checks):
    def test_no_tree(self):
        for house in [RING, APART, RING_APART, House(["a", "b"], [])]:
            for thing in plain.odd_things() + ["a"]:
                for call in [steps_alone, count_alone, through_number]:
                    self.raises((errors.NoTree,), call, house, thing)
                for call in [steps_through, count_through]:
                    self.raises((errors.NoTree,), call, house, thing, thing)
                self.raises((errors.NoTree,), through_at, house, thing, thing, thing)

    def test_no_room(self):
        for thing in plain.odd_things():
            for call in [steps_alone, count_alone]:
                self.raises((errors.NoRoom, thing), call, T, thing)
            for call in [steps_through, count_through, lambda *told: through_at(*told, -1)]:
                self.raises((errors.NoRoom, thing), call, T, thing, None)
                self.raises((errors.NoRoom, thing), call, T, "a", thing)

    def test_bad_number(self):
        for thing in plain.odd_things() + [6, -6, "0"]:
            if thing not in (0, 1) or isinstance(thing, bool):
                self.raises((errors.BadNumber, thing), through_at, T, "b", "b", thing)

    def test_any_objects(self):
        row = ["b", "a", "b", "d", "b", "c", "b"]
        self.assertEqual(through_number(T, row), 1)
        for thing in plain.odd_things():
            self.assertIsNone(through_number(T, thing))
            for at in range(len(row)):
                self.assertIsNone(through_number(T, row[:at] + [thing] + row[at + 1:]))
            self.assertIsNone(through_number(T, [*row, thing]))
        for thing in ["babdbcb", row[:-1] + ["a"], row + ["a", "b"], row[:5], ["a", "b", "c", "b", "a"],
                      ["b", "a", "b", "c", "b", "a", "b"], ["b", "a", "d", "b", "c", "b", "b"],
                      ["b", "a", "b", "a", "b", "d", "b", "c"], dict.fromkeys(row)]:
            self.assertIsNone(through_number(T, thing))
        self.assertEqual(through_number(T, ("b", "d", "b", "a", "b", "c")), 1)


class TestLimits(plain.Checks):
    def test_sixty_rooms(self):
        chance = random.Random(69)
        rooms, doors = plain.drawn_house(60, 59, chance)
        star = [(rooms[0], room) for room in rooms[1:]]
        for told in (star, doors, list(zip(rooms, rooms[1:]))):
            house = House(rooms, told)
            for first, last in [(rooms[0], rooms[0]), (rooms[7], rooms[31])]:
                many = count_through(house, first, last)
                for number in {0, many // 5, many - 1}:
                    row = through_at(house, first, last, number)
                    self.assertEqual(through_number(house, row), number)
                    self.assertEqual(len(row) - 1, steps_through(house, first, last))
            self.assertLessEqual(steps_alone(house, rooms[9]), 117)
            self.assertGreater(count_alone(house, rooms[9]), 0)
        self.assertEqual(count_through(House(rooms, star), rooms[0], rooms[0]), math.factorial(59))
        self.assertEqual(count_alone(House(rooms, star), rooms[5]), 58 * math.factorial(57))
        self.assertEqual(count_alone(House(rooms, star), rooms[0]), 59 * math.factorial(58))


if __name__ == "__main__":
    unittest.main()
