"""Point [35], and what [39] and [40] say of it."""

import itertools
import unittest

import plain
from lastfaces import errors
from lastfaces.firstmaps import count_first, first_at, first_number, is_first_map
from lastfaces.houses import House
from lastfaces.therule import why_not

H = House(["a", "b", "c", "d"], [("a", "b"), ("b", "c"), ("c", "d"), ("d", "a")])
P = {"x": "c", "y": "b"}
L = {"a": "x", "b": "y", "c": "x", "d": None}
F = {"a": "x", "b": "x", "c": "y", "d": None}


class TestFirstMaps(plain.Checks):
    def test_figures(self):
        self.assertEqual(count_first(H, P, L), 6)
        self.assertEqual(first_at(H, P, L, 0), F)
        self.assertEqual(first_number(H, P, L, F), 0)
        self.assertIs(is_first_map(H, P, L, F), True)

    def test_all_walks(self):
        for rooms, doors in plain.small_houses(3):
            for people in [[], ["x"], ["y", "x"], ["z", "x", "y"]]:
                self.hold(rooms, doors, people, 1)
        for rooms, doors in plain.small_houses()[-11:]:
            self.hold(rooms, doors, ["y", "x"], 9)

    def hold(self, rooms, doors, people, every):
        firsts = {}
        for begins in plain.placings(rooms, people):
            for where, first, last in plain.walked_both(rooms, doors, begins):
                firsts.setdefault((where, last), set()).add(first)
        told = [plain.row_of(faces, rooms) for faces in plain.maps(rooms, [None, *people])]
        strange = [plain.row_of(faces, rooms) for faces in plain.maps(rooms, [None, *people, "w"])]
        for where, last in sorted(firsts, key=str)[::every]:
            placing = dict(zip(sorted(people), where))
            faces = dict(zip(rooms, last))
            found = sorted(firsts[where, last], key=lambda row: [face for _, face in sorted(zip(rooms, row)) if face])
            self.judge(House(rooms, doors), placing, faces, [dict(zip(rooms, row)) for row in found])
            for row in told + strange[::3]:
                is_one = row in firsts[where, last]
                thing = dict(zip(rooms, row))
                self.assertIs(is_first_map(House(rooms, doors), placing, faces, thing), is_one)
                number = first_number(House(rooms, doors), placing, faces, thing)
                self.assertIs(number is not None, is_one)

    def judge(self, house, placing, faces, found):
        self.assertEqual(count_first(house, placing, faces), len(found))
        for number, first in enumerate(found):
            told = first_at(house, plain.other_order(placing), plain.other_order(faces), number)
            self.assertEqual(told, first)
            self.assertEqual(list(told), house.rooms())
            self.assertEqual(first_number(house, placing, faces, plain.other_order(first)), number)
        self.raises((errors.BadNumber, len(found)), first_at, house, placing, faces, len(found))

    def test_several_pieces(self):
        """Faces are told by rooms ascending, whatever pieces they are of."""
        rooms, doors = ["f", "e", "d", "c", "b", "a"], [("a", "c"), ("c", "e"), ("b", "d"), ("d", "f")]
        placing = {"p": "a", "s": "b", "q": "c", "r": "f"}
        faces = {"a": "p", "c": "q", "e": "q", "b": "s", "d": "r", "f": "r"}
        found = []
        for row in itertools.product("pq", "rs", "pq", "rs", "pq", "rs"):
            if {*row} == set("pqrs"):
                found.append(dict(zip("abcdef", row)))
        self.assertEqual(len(found), 36)
        self.judge(House(rooms, doors), placing, faces, found)

    def test_nobody(self):
        none = dict.fromkeys("abcd")
        self.judge(H, {}, none, [none])
        self.assertIs(is_first_map(H, {}, none, L), False)

    def test_any_objects(self):
        for thing in plain.odd_things() + [{**F, "a": 1}, {**F, "e": None}, {**F, "a": "w"}, {**F, "a": None}]:
            self.assertIs(is_first_map(H, P, L, thing), False)
            self.assertIsNone(first_number(H, P, L, thing))
        self.assertIsNone(first_number(H, P, L, {**F, "d": "x"}))
        self.assertIsNone(first_number(H, P, L, {**F, "c": "x"}))


class TestWrong(plain.Checks):
    def test_errors_in_order(self):
        for thing in plain.odd_things():
            for call in [count_first, *[lambda h, p, f, call=call: call(h, p, f, thing)
                                        for call in (is_first_map, first_at, first_number)]]:
                if thing != {}:
                    self.raises((errors.BadPlacing, thing), call, H, thing, thing)
                self.raises((errors.BadMap, thing), call, H, P, thing)
                for placing in [{}, {"x": "a"}, {"x": "b", "y": "c"}, {"x": "c", "y": "b", "z": "d"}]:
                    with self.assertRaises(errors.NoWalks) as caught:
                        call(H, placing, L)
                    self.assertEqual(caught.exception.why, why_not(H, placing, L))

    def test_bad_number(self):
        for thing in plain.odd_things() + [6, -1, True, False]:
            if type(thing) is not int or not 0 <= thing < 6:
                self.raises((errors.BadNumber, thing), first_at, H, P, L, thing)


class TestLimits(plain.Checks):
    def test_sixty_rooms(self):
        rooms = [f"r{k:02d}" for k in range(60)]
        house = House(rooms, list(zip(rooms, rooms[1:])))
        for people in [1, 2, 5, 20]:
            names = [f"p{k:02d}" for k in range(people)]
            placing = dict(zip(names, rooms))
            faces = {room: names[k % people] for k, room in enumerate(rooms)}
            many = count_first(house, placing, faces)
            self.assertEqual(many, self.surjections(60, people))
            for number in [0, 1, many // 3, many // 2, many - 2, many - 1]:
                if 0 <= number < many:
                    first = first_at(house, placing, faces, number)
                    self.assertTrue(is_first_map(house, placing, faces, first))
                    self.assertEqual(first_number(house, placing, faces, first), number)
            self.raises((errors.BadNumber, many), first_at, house, placing, faces, many)
        row = [names[0]] * 40 + names
        self.assertEqual(first_at(house, placing, faces, 0), dict(zip(rooms, row)))
        self.assertEqual(first_at(house, placing, faces, 1), dict(zip(rooms, row[:58] + [row[59], row[58]])))

    def surjections(self, rooms, people):
        """All ways to show people, less those that leave out one, and more those that leave out two, and so on."""
        many, chosen = 0, 1
        for left in range(people + 1):
            many += (-1) ** left * chosen * (people - left) ** rooms
            chosen = chosen * (people - left) // (left + 1)
        return many

    def test_several_pieces(self):
        rooms = [f"r{k:02d}" for k in range(60)]
        house = House(rooms, [(rooms[k], rooms[k + 3]) for k in range(57)])
        names = [f"p{k:02d}" for k in range(20)]
        placing = dict(zip(names, rooms))
        faces = {room: names[k % 20] if k < 20 else names[k % 3] for k, room in enumerate(rooms)}
        many = self.surjections(20, 7) ** 2 * self.surjections(20, 6)
        self.assertEqual(count_first(house, placing, faces), many)
        for number in [0, many // 7, many - 1]:
            first = first_at(house, placing, faces, number)
            self.assertEqual(first_number(house, placing, faces, first), number)


if __name__ == "__main__":
    unittest.main()
