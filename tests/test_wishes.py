"""Points [53] and [54], and what [58] says of them."""

import itertools
import random
import unittest

import plain
from lastfaces import errors
from lastfaces.exchanges import apart, order_row
from lastfaces.houses import House
from lastfaces.orders import is_order, left_rooms
from lastfaces.therule import why_not
from lastfaces.wishes import is_wish_paper, order_with, wish_paper

H = House(["a", "b", "c", "d"], [("a", "b"), ("b", "c"), ("c", "d"), ("d", "a")])
ALL_X = dict.fromkeys("abcd", "x")
P = {"x": "a"}
CALLS = [order_with, wish_paper, lambda *told: is_wish_paper(*told, ["b"])]


def some_cases():
    """Placings and maps that go with them, of small houses and some larger ones."""
    yield from plain.going_cases(plain.small_houses(3), 3)
    yield from plain.going_cases(plain.small_houses()[-11:], 3, 17)
    yield from plain.grown_cases(160, 93)


def keeps(order, wishes):
    return all(order.index(one) < order.index(other) for one, other in wishes)


def is_paper(doors, placing, faces, wishes, left, some):
    """By the words of [53]: of a list of unlike left rooms, one or more."""
    free = list(placing.values()) + [room for room in left if room not in some]
    for room in some:
        part = plain.component(doors, free, placing[faces[room]])
        if not any((one, room) in wishes for one in some) and part & set(plain.near(doors, room)):
            return False
    return True


class TestExample(plain.Checks):
    def test_figures(self):
        wishes = [("c", "b"), ("c", "d")]
        self.assertEqual(wish_paper(H, P, ALL_X, wishes), ["b", "c", "d"])
        self.assertIsNone(order_with(H, P, ALL_X, wishes))
        self.assertEqual(order_with(H, P, ALL_X, wishes[:1]), ["d", "c", "b"])
        self.assertEqual(apart(H, P, ALL_X, ["b", "c", "d"], ["d", "c", "b"]), 3)
        self.assertEqual(order_row(H, P, ALL_X, ["b", "c", "d"], ["d", "c", "b"]),
                         [["b", "c", "d"], ["b", "d", "c"], ["d", "b", "c"], ["d", "c", "b"]])


class TestWishes(plain.Checks):
    def test_against_all_orders(self):
        chance = random.Random(1)
        for rooms, doors, placing, faces in some_cases():
            orders = plain.plain_orders(rooms, doors, placing, faces)
            left = plain.left_of(rooms, placing, faces)
            pairs = list(itertools.product(left, repeat=2))
            for many in (0, 1, 2, 2, 3, 4, 6):
                self.judge(rooms, doors, placing, faces, orders, chance.choices(pairs, k=many) if left else [])

    def judge(self, rooms, doors, placing, faces, orders, wishes):
        house = House(rooms, doors)
        left = plain.left_of(rooms, placing, faces)
        fit = [order for order in orders if keeps(order, wishes)]
        told, paper = order_with(house, placing, faces, wishes), wish_paper(house, placing, faces, wishes)
        self.assertIs(told is not None, bool(fit))
        self.assertIs(paper is None, bool(fit))
        papers = [list(some) for many in range(1, len(left) + 1) for some in itertools.combinations(left, many)
                  if is_paper(doors, placing, faces, wishes, left, some)]
        if fit:
            self.assertIn(told, fit)
            self.assertEqual(papers, [])
        else:
            # What stays out is the greatest paper of all.
            self.assertEqual(paper, sorted({room for some in papers for room in some}))
            self.assertIn(paper, papers)
        for many in range(1, len(left) + 1):
            for some in itertools.combinations(left, many):
                wanted = list(some) in papers
                self.assertIs(is_wish_paper(house, placing, faces, wishes, some[::-1]), wanted)
        for kind in plain.both_kinds(wishes):
            again = House(rooms[::-1], doors[::-1])
            self.assertEqual(order_with(again, plain.other_order(placing), plain.other_order(faces), kind), told)

    def test_alike(self):
        self.assertEqual(wish_paper(H, P, ALL_X, [("c", "c")]), ["c"])
        self.assertIs(is_wish_paper(H, P, ALL_X, [("c", "c")], ("c",)), True)
        self.assertEqual(order_with(H, P, ALL_X, [("d", "b"), ("d", "b"), ("c", "b")] * 3), ["d", "c", "b"])

    def test_ring_of_wishes(self):
        # With b and d, each wished behind the other, c stays out, too: nothing beside it can be taken.
        self.assertEqual(wish_paper(H, P, ALL_X, [("b", "d"), ("d", "b")]), ["b", "c", "d"])
        for some, wanted in [("bd", True), ("bcd", True), ("c", False), ("b", False), ("bc", False)]:
            self.assertIs(is_wish_paper(H, P, ALL_X, [("b", "d"), ("d", "b")], list(some)), wanted)

    def test_any_objects(self):
        wishes = [("c", "b"), ("c", "d")]
        for thing in plain.odd_things() + ["a", "b", "x"]:
            self.assertIs(is_wish_paper(H, P, ALL_X, wishes, thing), False)
            self.assertIs(is_wish_paper(H, P, ALL_X, wishes, ["b", "c", "d", thing]), False)
            if thing != "b":
                self.assertIs(is_wish_paper(H, P, ALL_X, wishes, ["c", "d", thing]), False)
        for thing in ["bcd", {"b": 1, "c": 1, "d": 1}, ["b", "c", "d", "b"], [], ["c", "b"], (["b", "c", "d"],)]:
            self.assertIs(is_wish_paper(H, P, ALL_X, wishes, thing), False)
        self.assertIs(is_wish_paper(H, P, ALL_X, wishes, ("d", "b", "c")), True)

    def test_bad_wishes(self):
        wrong = [("a", "b"), ("b", "a"), ("b", "x"), ("b", None), "bc", ("b", "c", "d"), ("b",)]
        for thing in plain.no_pairs() + wrong:
            for call in CALLS:
                self.raises((errors.BadWishes, 1), call, H, P, ALL_X, [("c", "b"), thing, None])
        for thing in plain.odd_things():
            for call in CALLS:
                self.raises((errors.BadWishes, 0), call, H, P, ALL_X, ((thing, "b"), None))
                self.raises((errors.BadWishes, 0), call, H, P, ALL_X, [["b", thing], None])
        for thing in plain.no_lists():
            for call in CALLS:
                self.raises((errors.BadWishes, 0), call, H, P, ALL_X, thing)

    def test_errors_in_order(self):
        for thing in plain.odd_things():
            for call in CALLS:
                if thing != {}:
                    self.raises((errors.BadPlacing, thing), call, H, thing, thing, thing)
                self.raises((errors.BadMap, thing), call, H, P, thing, thing)
                with self.assertRaises(errors.NoWalks) as caught:
                    call(H, P, {**ALL_X, "b": "y"}, thing)
                self.assertEqual(caught.exception.why, why_not(H, P, {**ALL_X, "b": "y"}))

    def test_two_hundred_wishes(self):
        chance = random.Random(2)
        for doors_many, people in [(59, 1), (90, 3), (200, 20)]:
            rooms, doors = plain.drawn_house(60, doors_many, chance)
            placing = {f"p{k:02d}": room for k, room in enumerate(chance.sample(rooms, people))}
            faces = plain.grown_map(rooms, doors, placing, chance)
            house = House(rooms, doors)
            order = order_with(house, placing, faces, [])
            wishes = [tuple(sorted(chance.sample(order, 2), key=order.index)) for _ in range(200)]
            told = order_with(house, placing, faces, wishes)
            self.assertIs(is_order(house, placing, faces, told), True)
            self.assertTrue(keeps(told, wishes))
            wishes[117] = wishes[118][::-1]
            self.assertIsNone(order_with(house, placing, faces, wishes))
            paper = wish_paper(house, placing, faces, wishes)
            self.assertIs(is_wish_paper(house, placing, faces, wishes, paper), True)
            self.assertLessEqual(set(wishes[118]), set(paper))


class TestExchanges(plain.Checks):
    def fewest(self, orders, one):
        """By orders, the fewest exchanges of neighbours that lead there, all between being orders."""
        many = {tuple(one): 0}
        queue = [tuple(one)]
        for now in queue:
            for at in range(len(now) - 1):
                further = now[:at] + (now[at + 1], now[at]) + now[at + 2:]
                if list(further) in orders and further not in many:
                    many[further] = many[now] + 1
                    queue.append(further)
        return many

    def test_against_all_orders(self):
        chance = random.Random(3)
        for rooms, doors, placing, faces in some_cases():
            house = House(rooms, doors)
            orders = plain.plain_orders(rooms, doors, placing, faces)
            for one in chance.sample(orders, min(3, len(orders))):
                many = self.fewest(orders, one)
                for other in chance.sample(orders, min(3, len(orders))):
                    self.assertEqual(apart(house, placing, faces, tuple(one), other), many[tuple(other)])
                    self.judge_row(house, placing, faces, one, other, many[tuple(other)])

    def judge_row(self, house, placing, faces, one, other, many):
        row = order_row(house, placing, faces, one, tuple(other))
        self.assertEqual((type(row), len(row), row[0], row[-1]), (list, many + 1, one, other))
        for ahead, behind in zip(row, row[1:]):
            unlike = [at for at, room in enumerate(ahead) if behind[at] != room]
            self.assertEqual(len(unlike), 2)
            self.assertEqual(unlike[0] + 1, unlike[1])
            self.assertEqual(sorted(ahead), sorted(behind))
        for order in row:
            self.assertIs(is_order(house, placing, faces, order), True)
            self.assertIs(type(order), list)
        again = House(house.rooms()[::-1], house.doors()[::-1])
        self.assertEqual(order_row(again, plain.other_order(placing), faces, tuple(one), other), row)

    def test_bad_orders(self):
        good = ["b", "c", "d"]
        for call in [apart, order_row]:
            for thing in plain.odd_things():
                if thing != {}:
                    self.raises((errors.BadPlacing, thing), call, H, thing, thing, thing, thing)
                self.raises((errors.BadMap, thing), call, H, P, thing, thing, thing)
                with self.assertRaises(errors.NoWalks):
                    call(H, {}, ALL_X, thing, thing)
                self.raises((errors.BadOrder, 2), call, H, P, ALL_X, ["b", "c", thing], None)
                self.raises((errors.BadOrder, 1), call, H, P, ALL_X, good, ("b", thing, "d"))
                self.raises((errors.BadOrder, 3), call, H, P, ALL_X, good, [*good, thing])
            for thing in plain.no_lists():
                self.raises((errors.BadOrder, 0), call, H, P, ALL_X, thing, good)
                self.raises((errors.BadOrder, 0), call, H, P, ALL_X, good, thing)
            self.raises((errors.BadOrder, 2), call, H, P, ALL_X, good[:2], [])
            self.raises((errors.BadOrder, 0), call, H, P, ALL_X, good, ["c", "b", "d"])

    def test_twenty_left_rooms(self):
        chance = random.Random(4)
        rooms, doors = plain.drawn_house(21, 30, chance)
        star = [(rooms[0], room) for room in rooms[1:]]
        for told in [star, doors]:
            house = House(rooms, told)
            placing, faces = {"x": rooms[0]}, dict.fromkeys(rooms, "x")
            self.assertEqual(len(left_rooms(house, placing, faces)), 20)
            one = order_with(house, placing, faces, [])
            back = list(zip(one[1:], one))
            other = order_with(house, placing, faces, back[:7] if told is doors else back)
            other = other or order_with(house, placing, faces, back[3:4]) or one
            self.judge_row(house, placing, faces, one, other, apart(house, placing, faces, one, other))
        self.assertEqual(apart(House(rooms, star), placing, faces, rooms[1:], rooms[:0:-1]), 190)


if __name__ == "__main__":
    unittest.main()
