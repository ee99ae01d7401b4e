"""Points [33], [34] and [36], and what [39] and [40] say of them."""

import itertools
import random
import unittest

import plain
from lastfaces import errors
from lastfaces.bothmaps import begin_rooms, both_fault, both_walk, seen_parts, together_fault, together_walk
from lastfaces.houses import House
from lastfaces.therule import why_not

H = House(["a", "b", "c", "d"], [("a", "b"), ("b", "c"), ("c", "d"), ("d", "a")])
P = {"x": "c", "y": "b"}
L = {"a": "x", "b": "y", "c": "x", "d": None}
F = {"a": "x", "b": "x", "c": "y", "d": None}
B = {"x": "a", "y": "c"}
LAST = {"a": "y", "b": "y", "c": "y", "d": None}


def seen_of(faces):
    return [room for room in faces if faces[room] is not None]


def plain_fault(doors, begins, first, ends, last):
    """What bars a walk, by the words of the document."""
    for person in sorted({*begins, *ends}):
        if person not in begins or person not in ends:
            return "people", person
    if not plain.plain_goes(doors, begins, first):
        return ("first",)
    if not plain.plain_goes(doors, ends, last):
        return ("last",)
    for room in sorted(first):
        if bool(first[room]) != bool(last[room]):
            return "room", room
    for person in sorted(begins):
        if ends[person] not in plain.component(doors, seen_of(first), begins[person]):
            return "person", person
    return None


def some_of(things, most, chance):
    things = sorted(things, key=str)
    return things if len(things) <= most else chance.sample(things, most)


class TestExample(plain.Checks):
    def test_figures(self):
        self.assertEqual(seen_parts(H, L), [["a", "b", "c"]])
        self.assertIsNone(both_fault(H, B, F, P, L))
        self.assertEqual(both_fault(H, {**B, "y": "d"}, F, P, L), ("first",))
        self.assertEqual(together_fault(H, F, LAST), ("piece", "a", "x"))
        start, steps = both_walk(H, B, F, P, L)
        self.assertEqual(start, B)
        self.judge_walk(H.rooms(), H.doors(), (start, steps), P, L, F)
        self.assertIsNone(both_walk(H, {**B, "y": "d"}, F, P, L))
        self.assertIsNone(together_walk(H, F, LAST))


class TestSeenParts(plain.Checks):
    def test_all(self):
        for rooms, doors in plain.small_houses():
            for faces in plain.maps(rooms, [None, "x", "y"]):
                self.assertEqual(seen_parts(House(rooms, doors), faces), plain.plain_parts(doors, seen_of(faces)))


class TestBoth(plain.Checks):
    def judge(self, rooms, doors, begins, first, ends, last, is_walked):
        house = House(rooms, doors)
        fault = both_fault(house, begins, first, ends, last)
        walk = both_walk(house, begins, first, ends, last)
        self.assertEqual(fault, plain_fault(doors, begins, first, ends, last))
        self.assertIs(fault is None, is_walked)
        self.assertIs(walk is not None, is_walked)
        if is_walked:
            self.assertEqual(walk[0], begins)
            self.judge_walk(rooms, doors, walk, ends, last, first)
            others = [plain.other_order(told) for told in (begins, first, ends, last)]
            self.assertEqual(both_walk(House(rooms[::-1], doors[::-1]), *others), walk)
        else:
            self.assertIs(type(fault), tuple)

    def hold(self, houses, people, most, seed):
        """All walks from placings of people, and as many other stands and maps."""
        chance = random.Random(seed)
        for rooms, doors in houses:
            told = plain.maps(rooms, [None, *people, "w"])
            for begins in some_of(plain.placings(rooms, people), most, chance):
                walked = plain.walked_both(rooms, doors, begins)
                for where, first, last in some_of(walked, 40 * most, chance):
                    ends = dict(zip(sorted(people), where))
                    maps = [dict(zip(rooms, first)), dict(zip(rooms, last))]
                    self.judge(rooms, doors, begins, maps[0], ends, maps[1], True)
                    self.judge_others(rooms, doors, begins, ends, maps, walked, chance, told)

    def judge_others(self, rooms, doors, begins, ends, maps, walked, chance, told):
        """Changes one of what was told of a walk."""
        people = sorted(begins)
        other = chance.choice(plain.placings(rooms, people))
        for case in [(begins, maps[0], other, {**maps[1], **{room: p for p, room in other.items()}}),
                     (begins, chance.choice(told), ends, maps[1]), (begins, maps[0], ends, chance.choice(told)),
                     (begins, {**maps[0], chance.choice(rooms): chance.choice([*people, None])}, ends, maps[1])]:
            key = (plain.row_of(case[2], people), plain.row_of(case[1], rooms), plain.row_of(case[3], rooms))
            self.judge(rooms, doors, *case, key in walked)

    def test_up_to_three_rooms(self):
        for people in [[], ["x"], ["y", "x"], ["z", "y", "x"]]:
            self.hold([case for case in plain.small_houses(3) if len(case[0]) >= len(people)], people, 6, 1)

    def test_four_rooms(self):
        self.hold(plain.small_houses()[-11:], ["y", "x"], 2, 2)

    def test_all_of_a_small_house(self):
        rooms, doors = ["b", "a", "c"], [("b", "a")]
        for begins in plain.placings(rooms, ["x", "y"]):
            walked = plain.walked_both(rooms, doors, begins)
            for ends in plain.placings(rooms, ["x", "y"]):
                for first in plain.maps(rooms, [None, "x", "y"]):
                    for last in plain.maps(rooms, [None, "x", "y"]):
                        key = (plain.row_of(ends, "xy"), plain.row_of(first, rooms), plain.row_of(last, rooms))
                        self.judge(rooms, doors, begins, first, ends, last, key in walked)

    def test_faults_in_order(self):
        row = House(["a", "b", "c", "d"], [("a", "b"), ("c", "d")])
        none = dict.fromkeys("abcd")
        cases = [
            ({"x": "a"}, none, {"x": "a", "w": "b"}, none, ("people", "w")),
            ({"x": "a", "y": "b", "v": "c"}, none, {"x": "a", "w": "b"}, none, ("people", "v")),
            ({"x": "a"}, none, {"x": "a"}, none, ("first",)),
            ({"x": "a"}, {**none, "a": "x"}, {"x": "a"}, {**none, "a": "x", "b": "y"}, ("last",)),
            ({"x": "a"}, {**none, "a": "x"}, {"x": "c"}, {**none, "c": "x"}, ("room", "a")),
            ({"x": "b"}, {**none, "b": "x", "a": "x"}, {"x": "b"}, {**none, "b": "x"}, ("room", "a")),
            ({"x": "a", "y": "c"}, {**none, "a": "x", "c": "y"}, {"y": "a", "x": "c"}, {**none, "a": "y", "c": "x"},
             ("person", "x")),
            ({}, none, {}, none, None),
        ]
        for begins, first, ends, last, wanted in cases:
            self.assertEqual(both_fault(row, begins, first, ends, last), wanted)
        self.assertEqual(both_walk(row, {}, none, {}, none), ({}, []))

    def test_errors_in_order(self):
        for thing in plain.odd_things():
            for call in [both_walk, both_fault]:
                if thing != {}:
                    self.raises((errors.BadPlacing, thing), call, H, thing, thing, thing, thing)
                    self.raises((errors.BadPlacing, thing), call, H, B, F, thing, thing)
                self.raises((errors.BadMap, thing), call, H, B, thing, None, None)
                self.raises((errors.BadMap, thing), call, H, B, F, P, thing)


class TestBegins(plain.Checks):
    def test_all(self):
        for rooms, doors in plain.small_houses(3) + plain.small_houses()[-11::3] + plain.small_houses()[-1:]:
            for people in [[], ["x"], ["y", "x"]]:
                self.hold(rooms, doors, people)

    def hold(self, rooms, doors, people):
        """Whatever the others do, each begins in any room of its piece, also two in one room."""
        froms = {}
        for start in plain.starts(rooms, people):
            for end in plain.walked_from(rooms, doors, start):
                froms.setdefault(end, []).append(start)
        for (where, last), found in froms.items():
            placing = dict(zip(sorted(people), where))
            told = begin_rooms(House(rooms, doors), plain.other_order(placing), dict(zip(rooms, last)))
            self.ascends(told)
            self.assertEqual(list(told), sorted(people))
            keys = list(told)
            wanted = {plain.row_of(start, keys) for start in found}
            self.assertEqual({*itertools.product(*told.values())}, wanted)
            self.assertTrue(all(some == sorted(some) for some in told.values()))

    def test_figures(self):
        told = begin_rooms(H, P, L)
        self.assertEqual(told, {"x": ["a", "b", "c"], "y": ["a", "b", "c"]})
        told["x"].clear()
        self.assertEqual(told["y"], ["a", "b", "c"])

    def test_errors_in_order(self):
        for thing in plain.odd_things():
            if thing != {}:
                self.raises((errors.BadPlacing, thing), begin_rooms, H, thing, thing)
            self.raises((errors.BadMap, thing), begin_rooms, H, P, thing)
        for placing in [{}, {"x": "a"}, {"x": "b", "y": "c"}]:
            with self.assertRaises(errors.NoWalks) as caught:
                begin_rooms(H, placing, L)
            self.assertEqual(caught.exception.why, why_not(H, placing, L))


class TestTogether(plain.Checks):
    def hold(self, rooms, doors, every):
        walked = {}
        for people in [[], ["x"], ["y"], ["x", "y"]]:
            for begins in plain.placings(rooms, people):
                for where, first, last in plain.walked_both(rooms, doors, begins):
                    walked[first, last] = True
        pairs = itertools.product(plain.maps(rooms, ["x", "y", None]), repeat=2)
        for first, last in itertools.islice(pairs, 0, None, every):
            key = plain.row_of(first, rooms), plain.row_of(last, rooms)
            self.judge(rooms, doors, first, last, key in walked)
        for first, last in list(walked)[::every]:
            self.judge(rooms, doors, dict(zip(rooms, first)), dict(zip(rooms, last)), True)

    def judge(self, rooms, doors, first, last, is_walked):
        house = House(rooms, doors)
        fault = together_fault(house, first, last)
        walk = together_walk(house, first, last)
        self.assertEqual(fault, self.wanted(rooms, doors, first, last))
        self.assertIs(fault is None, is_walked)
        self.assertIs(walk is not None, is_walked)
        if is_walked:
            times = plain.gone_through(*walk)
            for where in (times[0], times[-1]):
                self.assertEqual(len(set(where.values())), len(where))
            self.judge_walk(rooms, doors, walk, times[-1], last, first)
            again = House(rooms[::-1], doors[::-1])
            self.assertEqual(together_walk(again, plain.other_order(first), plain.other_order(last)), walk)

    def wanted(self, rooms, doors, first, last):
        for room in sorted(rooms):
            if bool(first[room]) != bool(last[room]):
                return "room", room
        pieces = plain.plain_parts(doors, seen_of(first))
        for person in sorted({*first.values(), *last.values()} - {None}):
            for faces in (first, last):
                if len([piece for piece in pieces if any(faces[room] == person for room in piece)]) > 1:
                    return "two", person
        for piece in pieces:
            alone = {first[room] for room in piece} ^ {last[room] for room in piece}
            if alone:
                return "piece", piece[0], min(alone)
        return None

    def test_up_to_three_rooms(self):
        for rooms, doors in plain.small_houses(3):
            self.hold(rooms, doors, 1)

    def test_four_rooms(self):
        for rooms, doors in plain.small_houses()[-11::2]:
            self.hold(rooms, doors, 13)

    def test_faults_in_order(self):
        row = House(["a", "b", "c", "d", "e"], [("a", "b"), ("c", "d")])
        cases = [
            ("ppqq-", "pp-qq", ("room", "c")),
            ("ppqqq", "ppppq", ("two", "p")),
            ("qqppp", "ppqqq", ("two", "p")),
            ("pprrq", "qqrrq", ("two", "q")),
            # Shown in two pieces by both maps together, but by neither of them alone.
            ("pprr-", "rrpp-", ("piece", "a", "p")),
            ("rqpsp", "tqpsu", ("two", "p")),
            ("rqps-", "tqpu-", ("piece", "a", "r")),
            ("rqps-", "rqpu-", ("piece", "c", "s")),
            ("rqpsu", "qrspu", None),
            ("-----", "-----", None),
        ]
        for first, last, wanted in cases:
            told = [{room: None if face == "-" else face for room, face in zip("abcde", row)} for row in (first, last)]
            self.assertEqual(together_fault(row, *told), wanted)
            self.assertIs(together_walk(row, *told) is None, wanted is not None)

    def test_errors_in_order(self):
        for thing in plain.odd_things():
            for call in [together_walk, together_fault]:
                self.raises((errors.BadMap, thing), call, H, thing, None)
                self.raises((errors.BadMap, thing), call, H, F, thing)


class TestLimits(plain.Checks):
    def test_thirty_rooms(self):
        rooms = [f"r{k:02d}" for k in range(30)]
        tree = [(rooms[(k - 1) // 2], rooms[k]) for k in range(1, 30)]
        row = list(zip(rooms, rooms[1:]))
        for doors in [row, row + [(rooms[0], rooms[29])], tree, tree + [(rooms[k], rooms[k + 15]) for k in range(13)]]:
            house = House(rooms, doors)
            for people in [1, 2, 7, 20]:
                first = {room: f"p{k % people:02d}" for k, room in enumerate(rooms)}
                last = {room: f"p{k * 7 % people if people != 7 else k * 3 % 7:02d}" for k, room in enumerate(rooms)}
                start, steps = together_walk(house, first, last)
                ends = plain.gone_through(start, steps)[-1]
                self.judge_walk(rooms, doors, (start, steps), ends, last, first)
                walk = both_walk(house, start, first, ends, last)
                self.judge_walk(rooms, doors, walk, ends, last, first)
                self.assertEqual(begin_rooms(house, ends, last), {person: rooms for person in sorted(start)})

    def test_sixty_rooms_of_faults(self):
        rooms = [f"r{k:02d}" for k in range(60)]
        house = House(rooms, list(zip(rooms, rooms[1:])))
        faces = {room: f"p{k // 3:02d}" for k, room in enumerate(rooms)}
        begins = {f"p{k:02d}": rooms[3 * k] for k in range(20)}
        ends = {f"p{k:02d}": rooms[3 * k + 2] for k in range(20)}
        self.assertIsNone(both_fault(house, begins, faces, ends, faces))
        self.assertIsNone(together_fault(house, faces, faces))
        self.assertEqual(seen_parts(house, faces), [rooms])


if __name__ == "__main__":
    unittest.main()
