"""Points [49] to [52], [55] and [57], and what [58] says of them."""

import itertools
import math
import random
import unittest

import plain
from lastfaces import errors
from lastfaces.aheads import ahead_pairs, always_ahead, ending_rooms, leading_rooms, places_of
from lastfaces.houses import House
from lastfaces.lotsbyrows import row_fault
from lastfaces.ordercounts import ahead_chance, count_orders, mean_place, next_order, order_number, order_numbered
from lastfaces.orders import is_order, left_rooms, order_of, walk_in_order
from lastfaces.therule import why_not
from lastfaces.things import fraction

H = House(["a", "b", "c", "d"], [("a", "b"), ("b", "c"), ("c", "d"), ("d", "a")])
ALL_X = dict.fromkeys("abcd", "x")
P = {"x": "a"}
BY_MAP = [left_rooms, ahead_pairs, leading_rooms, ending_rooms, count_orders]
BY_THING = [is_order, places_of, order_numbered, order_number, next_order, mean_place, walk_in_order]
BY_TWO = [always_ahead, ahead_chance]


def some_cases(every=1):
    """Placings and maps that go with them, of small houses and some larger ones."""
    yield from plain.going_cases(plain.small_houses(3), 3, every)
    yield from plain.going_cases(plain.small_houses()[-11:], 3, 31 * every)
    yield from plain.grown_cases(240 // every, 91)


class TestExample(plain.Checks):
    def test_figures(self):
        self.raises((errors.BadOrder, 0), walk_in_order, H, P, ALL_X, ["c", "b", "d"])
        self.assertEqual(count_orders(H, P, ALL_X), 4)
        self.assertEqual(order_numbered(H, P, ALL_X, 0), ["b", "c", "d"])
        self.assertEqual(ahead_pairs(H, P, ALL_X), [])
        self.assertEqual(places_of(H, P, ALL_X, "c"), (1, 2))
        self.assertEqual(places_of(H, P, ALL_X, "b"), (0, 2))
        self.assertEqual(ahead_chance(H, P, ALL_X, "b", "c"), (3, 4))
        self.assertEqual(mean_place(H, P, ALL_X, "c"), (3, 2))
        row = House(["a", "b", "c", "d"], [("a", "b"), ("b", "c"), ("c", "d")])
        self.assertEqual(count_orders(row, {"x": "b"}, ALL_X), 3)
        self.assertEqual(ahead_pairs(row, {"x": "b"}, ALL_X), [("c", "d")])


class TestOrders(plain.Checks):
    def test_all_walks(self):
        """The orders of walks are just the orders by the rows; order_of tells them."""
        for rooms, doors in plain.small_houses(3) + plain.small_houses()[-11:]:
            house = House(rooms, doors)
            for many in range(3):
                people = ["y", "x"][:many]
                found = {}
                for where, last, order in plain.walked_orders(rooms, doors, people):
                    found.setdefault((where, last), []).append(list(order))
                keys = sorted(found, key=str)
                for where, last in keys if len(rooms) < 4 else keys[::9]:
                    placing, faces = dict(zip(people, where)), dict(zip(rooms, last))
                    orders = sorted(found[where, last])
                    self.assertEqual(orders, plain.plain_orders(rooms, doors, placing, faces))
                    self.assertEqual(count_orders(house, placing, faces), len(orders))
                    for order in orders:
                        walk = walk_in_order(house, placing, faces, order)
                        self.judge_walk(rooms, doors, walk, placing, faces)
                        self.assertEqual(order_of(house, *walk), order)

    def test_order_of_walks(self):
        for rooms, doors in plain.small_houses(3):
            house = House(rooms, doors)
            for start in plain.starts(rooms, ["y", "x"]):
                for steps in plain.all_walks(doors, start, 4):
                    times = plain.gone_through(start, steps)
                    if len(set(times[-1].values())) == 2:
                        left = [times[at][person] for at, (person, _) in enumerate(steps)][::-1]
                        order = [room for at, room in enumerate(left) if room not in left[:at]]
                        wanted = [room for room in order if room not in times[-1].values()]
                        self.assertEqual(order_of(house, start, steps), wanted)
                        self.assertEqual(order_of(house, start, tuple(map(list, steps))), wanted)

    def test_is_order(self):
        for rooms, doors, placing, faces in some_cases(3):
            house = House(rooms, doors)
            left = plain.left_of(rooms, placing, faces)
            orders = plain.plain_orders(rooms, doors, placing, faces)
            self.assertEqual(left_rooms(house, placing, faces), left)
            for row in itertools.permutations(left):
                self.assertIs(is_order(house, placing, faces, row), list(row) in orders)
            for row in plain.plain_rows(rooms, doors, placing, faces):
                # Each row goes on to an order.
                self.assertTrue(any(order[:len(row)] == row for order in orders))
                self.assertIs(is_order(house, placing, faces, row), row in orders)
                if row not in orders:
                    self.raises((errors.BadOrder, len(row)), next_order, house, placing, faces, row)
                self.raises((errors.BadOrder, len(row)), order_number, house, placing, faces, row + [None, "a"])

    def test_any_objects(self):
        order = ["b", "c", "d"]
        self.assertIs(is_order(H, P, ALL_X, order), True)
        self.assertIs(is_order(H, P, ALL_X, tuple(order)), True)
        self.assertIs(is_order(H, {}, dict.fromkeys("abcd"), []), True)
        for thing in plain.odd_things():
            self.assertIs(is_order(H, P, ALL_X, thing), False)
            self.assertIs(is_order(H, {}, dict.fromkeys("abcd"), thing), thing in ([], ()))
            for index in range(3):
                row = order[:index] + [thing] + order[index + 1:]
                self.assertIs(is_order(H, P, ALL_X, row), False)
                for call in [walk_in_order, order_number, next_order]:
                    self.raises((errors.BadOrder, index), call, H, P, ALL_X, row)
            self.assertIs(is_order(H, P, ALL_X, [*order, thing]), False)
            self.raises((errors.BadOrder, 3), next_order, H, P, ALL_X, [*order, thing])
        for thing in plain.no_lists() + ["bcd", {"b": 1, "c": 1, "d": 1}, [], ()]:
            for call in [walk_in_order, order_number, next_order]:
                self.raises((errors.BadOrder, 0), call, H, P, ALL_X, thing)
        for wrong, index in [(["b", "d", "b"], 2), (["b", "a", "d"], 1), (["b"], 1), (("b", "d"), 2), (["c"], 0)]:
            self.raises((errors.BadOrder, index), walk_in_order, H, P, ALL_X, wrong)

    def test_order_of_errors(self):
        start = {"x": "a", "y": "b"}
        for thing in plain.odd_things():
            if thing != {}:
                self.raises((errors.BadStart, thing), order_of, H, thing, thing)
            self.raises((errors.BadSteps, 1), order_of, H, start, [("x", "b"), thing])
        for thing in plain.no_lists():
            self.raises((errors.BadSteps, 0), order_of, H, start, thing)
        self.raises((errors.Crowded, "b"), order_of, H, {**start, "z": "d", "w": "d"}, [("x", "b")])
        self.assertEqual(order_of(H, start, []), [])
        self.assertEqual(order_of(H, {}, ()), [])
        self.assertEqual(order_of(H, {"x": "a"}, [("x", "b"), ("x", "c"), ("x", "b"), ("x", "a")]), ["b", "c"])


class TestAheads(plain.Checks):
    def test_against_all_orders(self):
        for rooms, doors, placing, faces in some_cases():
            house = House(rooms, doors)
            orders = plain.plain_orders(rooms, doors, placing, faces)
            left = plain.left_of(rooms, placing, faces)
            pairs = [(room, other) for room in left for other in left
                     if all(order.index(room) < order.index(other) for order in orders)]
            self.assertEqual(ahead_pairs(house, placing, faces), pairs)
            for room in left:
                indexes = {order.index(room) for order in orders}
                told = places_of(house, placing, faces, room)
                self.assertEqual(told, (min(indexes), max(indexes)))
                self.assertIs(type(told), tuple)
                self.assertEqual(sorted(indexes), list(range(told[0], told[1] + 1)))
                for other in left:
                    self.assertIs(always_ahead(house, placing, faces, room, other), (room, other) in pairs)
            self.assertEqual(leading_rooms(house, placing, faces), sorted({order[0] for order in orders if order}))
            self.assertEqual(ending_rooms(house, placing, faces), sorted({order[-1] for order in orders if order}))
            if plain.is_forest(rooms, doors):
                keep = [list(row) for row in itertools.permutations(left)
                        if all(row.index(one) < row.index(other) for one, other in pairs)]
                self.assertEqual(keep, orders)

    def test_not_left(self):
        for call in [always_ahead, ahead_chance]:
            for thing in plain.odd_things() + ["a", "x"]:
                self.raises((errors.NotLeft, thing), call, H, P, ALL_X, thing, None)
                self.raises((errors.NotLeft, thing), call, H, P, ALL_X, "b", thing)
            self.raises((errors.NotLeft, "d"), call, H, P, {**ALL_X, "d": None}, "b", "d")
        for call in [places_of, mean_place]:
            for thing in plain.odd_things() + ["a", "x"]:
                self.raises((errors.NotLeft, thing), call, H, P, ALL_X, thing)
            self.raises((errors.NotLeft, "d"), call, H, P, {**ALL_X, "d": None}, "d")
        self.assertIs(always_ahead(H, P, ALL_X, "b", "b"), False)

    def test_pairs_of_several_lots(self):
        house = House(list("abcdefg"), [("a", "c"), ("c", "e"), ("b", "d"), ("d", "f")])
        for placing in [{"x": "a", "y": "b"}, {"x": "b", "y": "a"}]:
            faces = {"g": None}
            for person, room in placing.items():
                faces.update(dict.fromkeys("ace" if room == "a" else "bdf", person))
            self.assertEqual(ahead_pairs(house, placing, faces), [("c", "e"), ("d", "f")])
            self.assertEqual(leading_rooms(house, placing, faces), ["c", "d"])
            self.assertEqual(ending_rooms(house, placing, faces), ["e", "f"])
            self.assertEqual(places_of(house, placing, faces, "e"), (1, 3))
            self.assertEqual(count_orders(house, placing, faces), 6)

    def test_nobody(self):
        for call, wanted in zip(BY_MAP, [[], [], [], [], 1]):
            self.assertEqual(call(H, {}, dict.fromkeys("abcd")), wanted)
        self.assertEqual(order_numbered(H, {}, dict.fromkeys("abcd"), 0), [])
        self.assertEqual(order_number(H, {}, dict.fromkeys("abcd"), ()), 0)
        self.assertIsNone(next_order(H, {}, dict.fromkeys("abcd"), []))
        self.assertEqual(walk_in_order(H, {}, dict.fromkeys("abcd"), []), ({}, []))


class TestCounted(plain.Checks):
    def test_against_all_orders(self):
        for rooms, doors, placing, faces in some_cases():
            house = House(rooms, doors)
            orders = plain.plain_orders(rooms, doors, placing, faces)
            left = plain.left_of(rooms, placing, faces)
            self.assertEqual(count_orders(house, placing, faces), len(orders))
            for order in orders[:7] + orders[7::13]:
                number = orders.index(order)
                self.assertEqual(order_numbered(house, placing, faces, number), order)
                self.assertEqual(order_number(house, placing, faces, tuple(order)), number)
                further = orders[number + 1] if number + 1 < len(orders) else None
                self.assertEqual(next_order(house, placing, faces, tuple(order)), further)
            self.assertIsNone(next_order(house, placing, faces, orders[-1]))
            self.judge_chances(house, placing, faces, left, orders)
            if plain.is_forest(rooms, doors):
                self.judge_fact(left, orders)

    def judge_chances(self, house, placing, faces, left, orders):
        for room in left:
            mean = fraction(sum(order.index(room) for order in orders), len(orders))
            self.assertEqual(mean_place(house, placing, faces, room), mean)
            for other in left:
                ahead = sum(order.index(room) < order.index(other) for order in orders)
                chance = ahead_chance(house, placing, faces, room, other)
                self.assertEqual(chance, fraction(ahead, len(orders)))
                self.assertIs(type(chance), tuple)

    def judge_fact(self, left, orders):
        ahead = {room: [other for other in left if all(order.index(other) < order.index(room) for order in orders)]
                 for room in left}
        chains = all(one == other or one in ahead[other] or other in ahead[one]
                     for room in left for one in ahead[room] for other in ahead[room])
        if chains:
            under = math.prod(1 + sum(room in ahead[other] for other in left) for room in left)
            self.assertEqual(len(orders) * under, math.factorial(len(left)))

    def test_bad_number(self):
        for thing in plain.odd_things() + [4, "0", -4]:
            if thing not in (0, 1) or thing is True or thing is False:
                self.raises((errors.BadNumber, thing), order_numbered, H, P, ALL_X, thing)
        self.assertEqual([order_numbered(H, P, ALL_X, k) for k in range(4)],
                         [["b", "c", "d"], ["b", "d", "c"], ["d", "b", "c"], ["d", "c", "b"]])
        self.raises((errors.BadNumber, 1), order_numbered, H, {}, dict.fromkeys("abcd"), 1)


class TestWrong(plain.Checks):
    def calls(self):
        told = [lambda *args, call=call: call(*args[:3]) for call in BY_MAP]
        told += [lambda *args, call=call: call(*args[:4]) for call in BY_THING]
        return told + BY_TWO

    def test_errors_in_order(self):
        for thing in plain.odd_things():
            for call in self.calls():
                if thing != {}:
                    self.raises((errors.BadPlacing, thing), call, H, thing, thing, thing, thing)
                self.raises((errors.BadMap, thing), call, H, P, thing, thing, thing)
        for placing, faces in [({}, ALL_X), (P, {**ALL_X, "b": None, "d": None}), ({"y": "b"}, ALL_X)]:
            for call in self.calls():
                with self.assertRaises(errors.NoWalks) as caught:
                    call(H, placing, faces, None, None)
                self.assertEqual(caught.exception.why, why_not(H, placing, faces))


class TestLimits(plain.Checks):
    def drawn(self, size, many, people, seed):
        chance = random.Random(seed)
        rooms, doors = plain.drawn_house(size, many, chance)
        names = [f"p{k:02d}" for k in range(people)]
        placing = dict(zip(names, chance.sample(rooms, people)))
        return rooms, doors, placing, plain.grown_map(rooms, doors, placing, chance)

    def test_sixty_rooms(self):
        for many in (59, 80, 200):
            for people in (1, 2, 20):
                rooms, doors, placing, faces = self.drawn(60, many, people, many + people)
                house = House(rooms, doors)
                left = left_rooms(house, placing, faces)
                pairs = ahead_pairs(house, placing, faces)
                ending = ending_rooms(house, placing, faces)
                self.assertEqual(ending, [room for room in left if not any(one == room for one, _ in pairs)])
                leading = leading_rooms(house, placing, faces)
                self.assertTrue(all(row_fault(house, placing, faces, [room]) is None for room in leading))
                for room in left[::11]:
                    for other in left[::7]:
                        told = always_ahead(house, placing, faces, room, other)
                        self.assertIs(told, (room, other) in pairs)
                    if many == 59 or people == 1:
                        least, most = places_of(house, placing, faces, room)
                        self.assertLessEqual(0, least)
                        self.assertEqual(most, len(left) - 1 - sum(one == room for one, _ in pairs))

    def test_places_of_sixty_rooms(self):
        rooms = [f"r{k:02d}" for k in range(60)]
        ring = House(rooms, list(zip(rooms, rooms[1:])) + [(rooms[0], rooms[59])])
        faces = dict.fromkeys(rooms, "x")
        self.assertEqual(places_of(ring, {"x": rooms[0]}, faces, rooms[20]), (19, 58))
        self.assertEqual(places_of(ring, {"x": rooms[0]}, faces, rooms[50]), (9, 58))
        row = House(rooms, list(zip(rooms, rooms[1:])))
        self.assertEqual(places_of(row, {"x": rooms[10]}, faces, rooms[20]), (9, 19))
        self.assertEqual(places_of(row, {"x": rooms[10]}, faces, rooms[0]), (9, 58))
        two = {**faces, **dict.fromkeys(rooms[30:], "y")}
        self.assertEqual(places_of(row, {"x": rooms[0], "y": rooms[59]}, two, rooms[30]), (28, 57))

    def test_places_in_brooms(self):
        """So many rooms can be taken ahead in so many ways that these cannot be gone through."""
        rooms = [f"r{k:02d}" for k in range(60)]
        broom = [(rooms[0], room) for room in rooms[1:31]] + list(zip([rooms[0], *rooms[31:]], rooms[31:]))
        faces = dict.fromkeys(rooms, "x")
        for doors in (broom, broom + [(rooms[1], rooms[2])], broom + [(rooms[57], rooms[59])]):
            far = rooms[58] if (rooms[57], rooms[59]) in doors else rooms[59]
            told = places_of(House(rooms, doors), {"x": rooms[0]}, faces, far)
            self.assertEqual(told, (27 if far == rooms[58] else 28, 58))
        two = {"x": rooms[0], "y": rooms[1]}
        faces[rooms[40]] = faces[rooms[1]] = "y"
        self.assertEqual(places_of(House(rooms, broom), two, faces, rooms[59]), (28, 57))

    def test_twelve_left_rooms(self):
        for seed, (size, many, people) in enumerate([(13, 13, 1), (13, 20, 1), (14, 30, 2), (15, 20, 3), (13, 78, 1)]):
            rooms, doors, placing, faces = self.drawn(size, many, people, seed)
            house = House(rooms, doors)
            left = left_rooms(house, placing, faces)
            self.assertEqual(len(left), 12)
            many = count_orders(house, placing, faces)
            for number in (0, 1, many // 3, many - 2, many - 1):
                order = order_numbered(house, placing, faces, number)
                self.assertIs(is_order(house, placing, faces, order), True)
                self.assertEqual(order_number(house, placing, faces, order), number)
                further = order_numbered(house, placing, faces, number + 1) if number < many - 1 else None
                self.assertEqual(next_order(house, placing, faces, order), further)
            self.judge_sums(house, placing, faces, left, left[seed:seed + 1])

    def judge_sums(self, house, placing, faces, left, some):
        """Chances of two rooms are one together; a mean place is the sum of the chances of what stands ahead."""
        for room in some:
            over, under = 0, 1
            for other in left:
                if other != room:
                    one, all_one = ahead_chance(house, placing, faces, other, room)
                    two, all_two = ahead_chance(house, placing, faces, room, other)
                    self.assertEqual(one * all_two + two * all_one, all_one * all_two)
                    over, under = over * all_one + one * under, under * all_one
                    sure = always_ahead(house, placing, faces, room, other)
                    self.assertIs((two, all_two) == (1, 1), sure)
            self.assertEqual(mean_place(house, placing, faces, room), fraction(over, under))

    def test_lots_of_twelve(self):
        rooms = [f"r{k:02d}" for k in range(60)]
        doors = []
        for part in range(5):
            own = rooms[12 * part:12 * part + 12]
            doors += list(zip(own, own[1:])) + [(own[0], own[11]), (own[3], own[8])]
        placing = {f"p{k}": rooms[12 * k + k] for k in range(5)}
        faces = {room: f"p{k // 12}" for k, room in enumerate(rooms)}
        house = House(rooms, doors)
        many = count_orders(house, placing, faces)
        one = [count_orders(House(rooms[12 * k:12 * k + 12], doors[13 * k:13 * k + 13]), {f"p{k}": rooms[13 * k]},
                            {room: faces[room] for room in rooms[12 * k:12 * k + 12]}) for k in range(5)]
        self.assertEqual(many, math.factorial(55) // math.factorial(11) ** 5 * math.prod(one))
        for number in (0, many // 7, many - 1):
            order = order_numbered(house, placing, faces, number)
            self.assertIs(is_order(house, placing, faces, order), True)
            self.assertEqual(order_number(house, placing, faces, order), number)
        left = left_rooms(house, placing, faces)
        self.judge_sums(house, placing, faces, left, left[17:18])

    def test_one_person_in_each_part(self):
        """The houses of the fact in [55]."""
        rooms = [f"r{k:02d}" for k in range(60)]
        faces = dict.fromkeys(rooms, "x")
        star = House(rooms, [(rooms[0], room) for room in rooms[1:]])
        many = count_orders(star, {"x": rooms[0]}, faces)
        self.assertEqual(many, math.factorial(59))
        self.assertEqual(order_numbered(star, {"x": rooms[0]}, faces, many - 1), rooms[:0:-1])
        self.assertEqual(order_number(star, {"x": rooms[0]}, faces, rooms[:0:-1]), many - 1)
        tree = House(rooms, [(rooms[(k - 1) // 2], rooms[k]) for k in range(1, 60)])
        many = count_orders(tree, {"x": rooms[0]}, faces)
        order = order_numbered(tree, {"x": rooms[0]}, faces, many // 5)
        self.assertEqual(order_number(tree, {"x": rooms[0]}, faces, order), many // 5)
        self.assertEqual(order_numbered(tree, {"x": rooms[0]}, faces, many // 5 + 1),
                         next_order(tree, {"x": rooms[0]}, faces, order))
        halves = House(rooms, list(zip(rooms[:30], rooms[1:30])) + list(zip(rooms[30:], rooms[31:])))
        two = {**faces, **dict.fromkeys(rooms[30:], "y")}
        self.assertEqual(count_orders(halves, {"x": rooms[0], "y": rooms[59]}, two), math.comb(58, 29))

    def test_walks_in_order(self):
        for seed, (size, many, people) in enumerate([(21, 20, 1), (21, 40, 1), (24, 60, 4), (40, 60, 20)]):
            rooms, doors, placing, faces = self.drawn(size, many, people, seed)
            house = House(rooms, doors)
            self.assertEqual(len(left_rooms(house, placing, faces)), 20)
            order = []
            while len(order) < 20:
                open_rooms = [room for room in rooms if row_fault(house, placing, faces, [*order, room]) is None]
                order.append(open_rooms[-1])
            walk = walk_in_order(house, placing, faces, order)
            self.judge_walk(rooms, doors, walk, placing, faces)
            self.assertEqual(order_of(house, *walk), order)


if __name__ == "__main__":
    unittest.main()
