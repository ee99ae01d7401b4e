"""Points [37] and [38], and what [39] and [40] say of them."""

import itertools
import random
import unittest

import plain
from lastfaces import errors
from lastfaces.houses import House
from lastfaces.keptaway import is_kept, is_kept_paper, kept_paper, kept_walk, sure_people, surely_came
from lastfaces.therule import why_not

H = House(["a", "b", "c", "d"], [("a", "b"), ("b", "c"), ("c", "d"), ("d", "a")])
P = {"x": "c", "y": "b"}
L = {"a": "x", "b": "y", "c": "x", "d": None}


def free_of(rooms, kept, person):
    return [room for room in rooms if room not in kept.get(person, [])]


def takable(rooms, doors, placing, faces, kept, some):
    """The rooms that can be taken in when some are."""
    found = []
    for room in sorted(rooms):
        person = faces[room]
        if room in some or person not in placing:
            continue
        free = free_of(some, kept, person)
        if room in free_of(rooms, kept, person) and placing[person] in free:
            if set(plain.near(doors, room)) & plain.component(doors, free, placing[person]):
                found.append(room)
    return found


def plain_taken(rooms, doors, placing, faces, kept, pick):
    """The rooms taken in at last, one behind another, as picked."""
    some = list(placing.values())
    found = takable(rooms, doors, placing, faces, kept, some)
    while found:
        some.append(pick(found))
        found = takable(rooms, doors, placing, faces, kept, some)
    return sorted(some)


def is_amiss(placing, faces, kept, person):
    return faces[placing[person]] != person or placing[person] in kept.get(person, [])


def all_lists(rooms):
    return [list(some) for many in range(len(rooms) + 1) for some in itertools.combinations(rooms, many)]


class TestKept(plain.Checks):
    def test_any_objects(self):
        for thing in plain.odd_things():
            self.assertIs(is_kept(H, thing), thing in ({}, {"q": []}))
            self.assertIs(is_kept(H, {"x": [thing]}), False)
        for thing in plain.no_lists():
            self.assertIs(is_kept(H, {"x": thing}), False)
        for thing in plain.no_names():
            if not isinstance(thing, (list, dict, House)):
                self.assertIs(is_kept(H, {"y": [], thing: []}), False)

    def test_ordinary(self):
        for thing in [{}, {"x": []}, {"x": ["a"], "nobody": ("d", "b")}, {"x": ("a", "b", "c", "d"), "y": []}]:
            self.assertIs(is_kept(H, thing), True)
        for thing in [{"x": ["a", "a"]}, {"x": "a"}, {"X": []}, {"x": ["e"]}, {"x": {"a": 1}}, [("x", [])], {"": []}]:
            self.assertIs(is_kept(H, thing), False)


class TestExample(plain.Checks):
    def test_figures(self):
        self.assertEqual(surely_came(H, P, L, "x"), ["a", "b", "c"])
        self.assertEqual(surely_came(H, P, L, "y"), ["b"])
        self.assertEqual(kept_paper(H, P, L, {"x": ["b"]}), ("rooms", ["b", "c"], "a"))
        self.assertIsNone(kept_walk(H, P, L, {"x": ["b"]}))
        self.assertEqual(sure_people(H, P, L, "b"), ["x", "y"])
        self.assertEqual(sure_people(H, P, L, "a"), ["x"])
        self.assertEqual(sure_people(H, P, L, "d"), [])


class TestKeptWalk(plain.Checks):
    def judge(self, rooms, doors, placing, faces, kept, is_walked):
        house = House(rooms, doors)
        walk = kept_walk(house, placing, faces, kept)
        paper = kept_paper(house, placing, faces, kept)
        self.assertEqual(paper, self.wanted(rooms, doors, placing, faces, kept))
        self.assertIs(paper is None, is_walked)
        self.assertIs(walk is not None, is_walked)
        if is_walked:
            for where in self.judge_walk(rooms, doors, walk, placing, faces):
                self.assertTrue(all(where[person] not in kept.get(person, []) for person in where))
        else:
            self.assertIs(is_kept_paper(house, placing, faces, kept, paper), True)
        for other in plain.both_kinds(kept):
            again = House(rooms[::-1], doors[::-1])
            self.assertEqual(kept_walk(again, plain.other_order(placing), plain.other_order(faces), other), walk)
            self.assertEqual(kept_paper(again, placing, faces, plain.other_order(other)), paper)

    def wanted(self, rooms, doors, placing, faces, kept):
        wrong = [person for person in sorted(placing) if is_amiss(placing, faces, kept, person)]
        if wrong:
            return "room", wrong[0]
        some = plain_taken(rooms, doors, placing, faces, kept, min)
        self.assertEqual(plain_taken(rooms, doors, placing, faces, kept, max), some)
        outside = [room for room in sorted(rooms) if faces[room] and room not in some]
        return ("rooms", some, outside[0]) if outside else None

    def hold(self, houses, people, most, chance):
        """All walks in which nobody comes to rooms kept from it; maps of walks, and some others."""
        for rooms, doors in houses:
            kepts = [dict(zip([*people, "w"], chosen)) for chosen in itertools.product(
                all_lists(rooms), repeat=len(people))]
            kepts = kepts if len(kepts) <= most else chance.sample(kepts, most) + [{}]
            for kept in kepts:
                ends = set()
                for start in plain.starts(rooms, people):
                    ends |= plain.walked_from(rooms, doors, start, kept)
                told = plain.maps(rooms, [None, *people, "w"])
                for placing in plain.placings(rooms, people):
                    for faces in chance.sample(told, min(12, len(told))):
                        self.judge_end(rooms, doors, placing, faces, kept, ends)
                        faces = {**faces, **{room: person for person, room in placing.items()}}
                        self.judge_end(rooms, doors, placing, faces, kept, ends)
                for where, last in sorted(ends, key=str)[::4]:
                    placing = dict(zip(sorted(people), where))
                    self.judge(rooms, doors, placing, dict(zip(rooms, last)), kept, True)

    def judge_end(self, rooms, doors, placing, faces, kept, ends):
        key = plain.row_of(placing, sorted(placing)), plain.row_of(faces, rooms)
        self.judge(rooms, doors, placing, faces, kept, key in ends)

    def test_up_to_three_rooms(self):
        chance = random.Random(3)
        for people, most in [([], 1), (["x"], 8), (["y", "x"], 30), (["z", "y", "x"], 12)]:
            self.hold([case for case in plain.small_houses(3) if len(case[0]) >= len(people)], people, most, chance)

    def test_four_rooms(self):
        self.hold(plain.small_houses()[-9:], ["y", "x"], 5, random.Random(4))

    def test_without_anything_kept(self):
        for rooms, doors, faces in plain.larger_cases(120, 51):
            for placing in plain.going_placings(rooms, doors, faces):
                self.judge(rooms, doors, placing, faces, {"nobody": rooms}, True)

    def test_larger_houses(self):
        chance = random.Random(6)
        for rooms, doors, faces in plain.larger_cases(200, 52):
            for placing in plain.going_placings(rooms, doors, faces)[:4]:
                kept = {person: chance.sample(rooms, chance.randint(0, 2)) for person in placing}
                self.judge(rooms, doors, placing, faces, kept, self.wanted(rooms, doors, placing, faces, kept) is None)

    def test_own_room_kept(self):
        self.assertEqual(kept_paper(H, P, L, {"y": ["b"]}), ("room", "y"))
        self.assertEqual(kept_paper(H, P, L, {"y": ["b"], "x": ["c"]}), ("room", "x"))
        self.assertEqual(kept_paper(H, P, {**L, "b": "x"}, {"x": ["b"]}), ("room", "y"))
        # A room that is taken in, but kept from a person, does not let it through.
        row = House(["a", "b", "c"], [("a", "b"), ("b", "c")])
        placing, faces = {"x": "a", "y": "b"}, {"a": "x", "b": "y", "c": "x"}
        self.assertEqual(kept_paper(row, placing, faces, {"x": ["b"]}), ("rooms", ["a", "b"], "c"))
        self.assertIsNone(kept_paper(row, placing, faces, {"y": ["c", "a"]}))
        self.assertEqual(kept_paper(row, placing, faces, {"x": ["c"]}), ("rooms", ["a", "b"], "c"))


class TestPapers(plain.Checks):
    def test_all_lists(self):
        chance = random.Random(7)
        for rooms, doors in plain.small_houses(3) + plain.small_houses()[-11::2]:
            for many in range(3):
                people = ["y", "x"][:many]
                for placing in plain.placings(rooms, people):
                    for faces in chance.sample(plain.maps(rooms, [None, *people, "w"]), len(rooms)):
                        kept = {person: chance.sample(rooms, chance.randint(0, len(rooms) - 1)) for person in people}
                        self.judge(rooms, doors, placing, faces, kept)

    def judge(self, rooms, doors, placing, faces, kept):
        house = House(rooms, doors)
        for some in all_lists(rooms):
            stuck = set(placing.values()) <= set(some)
            stuck = stuck and not takable(rooms, doors, placing, faces, kept, some)
            for room in rooms:
                wanted = stuck and room not in some and faces[room] is not None
                for thing in plain.both_kinds(("rooms", some[::-1], room)):
                    self.assertIs(is_kept_paper(house, placing, faces, kept, thing), wanted)
                if wanted:
                    self.assertIsNone(kept_walk(house, placing, faces, kept))
        for person in ["x", "y", "w"]:
            wanted = person in placing and is_amiss(placing, faces, kept, person)
            for thing in plain.both_kinds(("room", person)):
                self.assertIs(is_kept_paper(house, placing, faces, kept, thing), wanted)

    def test_any_objects(self):
        kept = {"x": ["b"], "y": ["b"]}
        good = ("rooms", ["c", "b"], "a")
        self.assertIs(is_kept_paper(H, P, L, kept, good), True)
        self.assertIs(is_kept_paper(H, P, L, kept, ["room", "y"]), True)
        wrong = [("rooms", ["c", "b", "c"], "a"), ("rooms", ["c"], "a"), ("rooms", ["b", "c"], "d"),
                 ("rooms", ["b", "c"], "b"), ("rooms", ["b", "c"]), ("rooms", ["b", "c"], "a", "a"), ("room", "x"),
                 ("rooms", ["a", "b", "c", "d"], "a"), ("room", "y", "y"), ("lots", ["b", "c"], "a"), ("rooms",),
                 ("room", ["b", "c"], "a"), ("rooms", "y"), ("rooms", {"b": 1, "c": 1}, "a"), ("rooms", "bc", "a")]
        for thing in wrong + plain.odd_things():
            self.assertIs(is_kept_paper(H, P, L, kept, thing), False)
        for thing in plain.odd_things():
            for paper in [("room", thing), (thing, "y"), (thing, ["b", "c"], "a"), ("rooms", ["b", "c"], thing),
                          ("rooms", thing, "a"), ("rooms", ["b", "c", thing], "a"), ("rooms", ["b", "c"], "a", thing)]:
                self.assertIs(is_kept_paper(H, P, L, kept, paper), False)


class TestSurely(plain.Checks):
    def visits(self, rooms, doors, people):
        """By stands and last faces: of all walks, the sets of the pairs (person, room) that came together."""
        found = {}
        for start in plain.starts(rooms, people):
            first = (tuple(start.items()), (None,) * len(rooms), frozenset(start.items()))
            seen, queue = {first}, [first]
            while queue:
                told, out, came = queue.pop()
                where = dict(told)
                if len(set(where.values())) == len(where):
                    last = dict(zip(rooms, out))
                    last.update({room: person for person, room in where.items()})
                    key = plain.row_of(where, sorted(people)), plain.row_of(last, rooms)
                    found.setdefault(key, []).append(came)
                for person in where:
                    at = rooms.index(where[person])
                    for room in plain.near(doors, where[person]):
                        state = (tuple({**where, person: room}.items()), out[:at] + (person,) + out[at + 1:],
                                 came | {(person, room)})
                        if state not in seen:
                            seen.add(state)
                            queue.append(state)
        return found

    def test_all_walks(self):
        for rooms, doors in plain.small_houses(3) + [plain.small_houses()[index] for index in (-1, -4, -6, -9)]:
            for people in [[], ["x"], ["y", "x"]] if len(rooms) < 4 else [["x"]]:
                self.hold(rooms, doors, people)
        rooms, doors = plain.small_houses()[-3]
        self.hold(rooms, doors, ["y", "x"], 5)

    def hold(self, rooms, doors, people, every=1):
        house = House(rooms, doors)
        found = self.visits(rooms, doors, people)
        for where, last in sorted(found, key=str)[::every]:
            placing, faces = dict(zip(sorted(people), where)), dict(zip(rooms, last))
            sure = frozenset.intersection(*found[where, last])
            for person in people:
                wanted = sorted(room for other, room in sure if other == person)
                self.assertEqual(surely_came(house, plain.other_order(placing), faces, person), wanted)
            for room in rooms:
                wanted = sorted(person for person, other in sure if other == room)
                self.assertEqual(sure_people(house, plain.other_order(placing), faces, room), wanted)

    def test_several_surely(self):
        placing, faces = {"z": "c", "y": "a", "x": "b"}, {"a": "y", "b": "x", "c": "z", "d": "y"}
        row = House(["a", "b", "c", "d"], [("a", "b"), ("b", "c"), ("c", "d")])
        self.assertEqual(sure_people(row, placing, faces, "c"), ["y", "z"])
        self.assertEqual(surely_came(row, placing, faces, "y"), ["a", "b", "c", "d"])

    def test_errors_in_order(self):
        for thing in plain.odd_things():
            for call in [surely_came, sure_people]:
                if thing != {}:
                    self.raises((errors.BadPlacing, thing), call, H, thing, thing, thing)
                self.raises((errors.BadMap, thing), call, H, P, thing, thing)
                for placing in [{}, {"x": "a"}, {"x": "b", "y": "c"}]:
                    with self.assertRaises(errors.NoWalks) as caught:
                        call(H, placing, L, thing)
                    self.assertEqual(caught.exception.why, why_not(H, placing, L))
            self.raises((errors.BadPerson, thing), surely_came, H, P, L, thing)
            self.raises((errors.NoRoom, thing), sure_people, H, P, L, thing)
        self.raises((errors.BadPerson, "z"), surely_came, H, P, L, "z")
        self.raises((errors.BadPerson, "a"), surely_came, H, P, L, "a")
        self.raises((errors.NoRoom, "x"), sure_people, H, P, L, "x")


class TestWrong(plain.Checks):
    def test_errors_in_order(self):
        calls = [kept_walk, kept_paper, lambda *told: is_kept_paper(*told, ("room", "x"))]
        for thing in plain.odd_things():
            for call in calls:
                if thing != {}:
                    self.raises((errors.BadPlacing, thing), call, H, thing, thing, thing)
                self.raises((errors.BadMap, thing), call, H, P, thing, thing)
                if thing not in ({}, {"q": []}):
                    self.raises((errors.BadKept, thing), call, H, P, L, thing)
                    # Maps that do not go with the placing have no error of their own.
                    self.raises((errors.BadKept, thing), call, H, {}, L, thing)
                kept = {"y": [], "x": ["a", thing]}
                self.raises((errors.BadKept, kept), call, H, P, L, kept)


class TestLimits(plain.Checks):
    def test_thirty_rooms(self):
        rooms = [f"r{k:02d}" for k in range(30)]
        ring = list(zip(rooms, rooms[1:])) + [(rooms[0], rooms[29])]
        for people in [1, 2, 5, 20]:
            names = [f"p{k:02d}" for k in range(people)]
            placing = dict(zip(names, rooms))
            faces = {room: names[k % people] for k, room in enumerate(rooms)}
            for doors in [ring, ring + [(rooms[k], rooms[k + 5]) for k in range(25)]]:
                house = House(rooms, doors)
                for kept in [{}, {names[0]: [rooms[29]]}, {names[-1]: rooms[10:12]}]:
                    walk = kept_walk(house, placing, faces, kept)
                    self.assertIs(walk is None, kept_paper(house, placing, faces, kept) is not None)
                    if walk is not None:
                        for where in self.judge_walk(rooms, doors, walk, placing, faces):
                            self.assertTrue(all(where[person] not in kept.get(person, []) for person in where))
                came = surely_came(house, placing, faces, names[0])
                self.assertLessEqual({room for room in rooms if faces[room] == names[0]}, set(came))
                for room in rooms[::7]:
                    self.assertIs(names[0] in sure_people(house, placing, faces, room), room in came)


if __name__ == "__main__":
    unittest.main()
