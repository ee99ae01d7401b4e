"""Point [56], and what [58] says of it."""

import itertools
import random
import unittest

import plain
from lastfaces import errors
from lastfaces.aheads import ahead_pairs
from lastfaces.dues import due_paper, order_by
from lastfaces.houses import House
from lastfaces.orders import is_order
from lastfaces.therule import why_not

RING = House(["a", "b", "c", "d"], [("a", "b"), ("b", "c"), ("c", "d"), ("d", "a")])
ROW = House(["a", "b", "c", "d"], [("a", "b"), ("b", "c"), ("c", "d")])
ALL_X = dict.fromkeys("abcd", "x")
P = {"x": "b"}


def latest_dues(left, orders, dues):
    """By the words of [56], again and again until nothing changes."""
    ahead = {room: [other for other in left if all(order.index(room) < order.index(other) for order in orders)]
             for room in left}
    latest = {room: min(dues.get(room, len(left)), len(left)) for room in left}
    for _ in left:
        latest = {room: min([latest[room]] + [latest[other] - 1 for other in ahead[room]]) for room in left}
    return latest


class TestExample(plain.Checks):
    def test_figures(self):
        self.assertEqual(due_paper(ROW, P, ALL_X, {"d": 1}), (0, ["c"]))
        self.assertIsNone(order_by(ROW, P, ALL_X, {"d": 1}))
        self.assertEqual(order_by(ROW, P, ALL_X, {"d": 2}), ["c", "d", "a"])
        self.assertIsNone(due_paper(ROW, P, ALL_X, {"d": 2}))
        self.assertEqual(due_paper(ROW, P, ALL_X, {"d": 2, "a": 1}), (1, ["a", "c"]))


class TestDues(plain.Checks):
    def cases(self):
        small = [case for case in plain.small_houses() if plain.is_forest(*case)]
        yield from plain.going_cases(small[:-6], 3, 3)
        yield from plain.going_cases(small[-6:], 3, 17)
        yield from plain.grown_cases(150, 94, (5, 6, 7), rings=False)

    def test_against_all_orders(self):
        chance = random.Random(1)
        for rooms, doors, placing, faces in self.cases():
            left = plain.left_of(rooms, placing, faces)
            orders = plain.plain_orders(rooms, doors, placing, faces)
            for _ in range(6):
                some = [room for room in left[::-1] if chance.random() < 0.6]
                dues = {room: chance.choice([1, 2, 3, len(left), len(left), 9]) for room in some}
                self.judge(House(rooms, doors), placing, faces, left, orders, dues)

    def judge(self, house, placing, faces, left, orders, dues):
        fit = [order for order in orders if all(order.index(room) < dues[room] for room in dues)]
        told = order_by(house, placing, faces, dues)
        self.assertIs(told is not None, bool(fit))
        latest = latest_dues(left, orders, dues)
        papers = []
        for number in range(len(left) + 1):
            rooms = [room for room in left if latest[room] <= number]
            if len(rooms) > number:
                papers.append((number, rooms))
        self.assertEqual(due_paper(house, placing, faces, dues), papers[0] if papers else None)
        self.assertIs(bool(papers), not fit)
        if fit:
            self.assertIn(told, fit)
        again = House(house.rooms()[::-1], house.doors()[::-1])
        self.assertEqual(order_by(again, plain.other_order(placing), faces, plain.other_order(dues)), told)

    def test_far_ahead(self):
        # Latest dues may be below 0, numbers not.
        row = House(["a", "b", "c", "d", "e"], [("a", "b"), ("b", "c"), ("c", "d"), ("d", "e")])
        faces = dict.fromkeys("abcde", "x")
        self.assertEqual(due_paper(row, {"x": "a"}, faces, {"e": 1}), (0, ["b", "c", "d"]))
        self.assertIsNone(due_paper(row, {"x": "a"}, faces, {"e": 4}))

    def test_nobody(self):
        self.assertEqual(order_by(ROW, {}, dict.fromkeys("abcd"), {}), [])
        self.assertIsNone(due_paper(ROW, {}, dict.fromkeys("abcd"), {}))
        dues = {"a": 1}
        self.raises((errors.BadDues, dues), due_paper, ROW, {}, dict.fromkeys("abcd"), dues)


class TestWrong(plain.Checks):
    def test_bad_dues(self):
        for call in [order_by, due_paper]:
            for thing in plain.odd_things() + [[("d", 1)], {"b": 1}, {"d": 0}, {"d": -1}, {"d": True}, {"d": "1"},
                                               {"d": None}, {"e": 1}, {"x": 1}, {"d": 2, "b": 3}, {1: 1}, {None: 1}]:
                if thing != {}:
                    self.raises((errors.BadDues, thing), call, ROW, P, ALL_X, thing)
            for thing in plain.odd_things():
                dues = {"d": thing}
                if type(thing) is not int or thing < 1:
                    self.raises((errors.BadDues, dues), call, ROW, P, ALL_X, dues)
                else:
                    self.assertIs(call(ROW, P, ALL_X, dues) is None, (thing == 1) is (call is order_by))

    def test_errors_in_order(self):
        for call in [order_by, due_paper]:
            for thing in plain.odd_things():
                if thing != {}:
                    self.raises((errors.BadPlacing, thing), call, RING, thing, thing, thing)
                self.raises((errors.BadMap, thing), call, RING, P, thing, thing)
                self.raises((errors.HasRing,), call, RING, P, ALL_X, thing)
                for house in (RING, ROW):
                    with self.assertRaises(errors.NoWalks) as caught:
                        call(house, P, {**ALL_X, "a": "y"}, thing)
                    self.assertEqual(caught.exception.why, why_not(house, P, {**ALL_X, "a": "y"}))


class TestLimits(plain.Checks):
    def test_sixty_rooms(self):
        chance = random.Random(2)
        for people in (1, 3, 20):
            rooms, doors = plain.drawn_house(60, 59, chance)
            placing = {f"p{k:02d}": room for k, room in enumerate(chance.sample(rooms, people))}
            faces = plain.grown_map(rooms, doors, placing, chance)
            house = House(rooms, doors)
            order = order_by(house, placing, faces, {})
            for loose in (0, 3, 10 ** 8):
                dues = {room: index + 1 + loose for index, room in enumerate(order) if index % 3}
                told = order_by(house, placing, faces, dues)
                self.assertIs(is_order(house, placing, faces, told), True)
                self.assertTrue(all(told.index(room) < dues[room] for room in dues))
            pairs = ahead_pairs(house, placing, faces)
            for one, other in pairs[::97]:
                number, some = due_paper(house, placing, faces, {other: 1})
                self.assertEqual(number, 0)
                self.assertEqual(some, sorted(room for room, behind in pairs if behind == other))
            number, some = due_paper(house, placing, faces, dict.fromkeys(order, 30))
            self.assertGreater(len(some), number)


if __name__ == "__main__":
    unittest.main()
