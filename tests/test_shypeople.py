"""Points [122] to [125] and [127], and what [128] says of them."""

import itertools
import random
import unittest

import plain
from plain import component
from lastfaces import errors
from lastfaces.awayclaims import claims_can_be, claims_clash, most_claims
from lastfaces.houses import House
from lastfaces.mustrooms import came_to, could_rooms, must_rooms, needed_people
from lastfaces.shypeople import is_shy_why, shy_walk, shy_why
from lastfaces.therule import why_not

H = House(["a", "b", "c", "d"], [("a", "b"), ("b", "c"), ("c", "d"), ("d", "a")])
P = {"y": "b", "x": "a"}
F = {"a": "x", "b": "y", "c": "x", "d": "y"}
STUCK = {"a": "x", "b": "y", "c": "z", "d": "y"}
SHY_CALLS = [shy_walk, shy_why, lambda *told: is_shy_why(*told, None)]
OF_CLAIMS = [claims_can_be, claims_clash, most_claims]


def plain_taken(doors, placing, faces, shy, taken=None):
    """What is taken in at last, one room at a time, by the words of the rule; with just these taken in at first."""
    taken = set(placing.values()) if taken is None else set(taken)
    while True:
        more = set()
        for person in placing:
            barred = set(shy.get(person, []))
            lot = component(doors, taken - barred, placing[person])
            around = {b for a in lot for b in plain.near(doors, a)} - taken - barred
            more |= {room for room in around if faces[room] == person}
        if not more:
            return taken
        taken.add(min(more))


def drawn_shy(rooms, placing, chance, most=3):
    shy = {}
    for person in sorted(placing, reverse=True):
        free = [room for room in rooms if room != placing[person]]
        if chance.random() < 0.7:
            shy[person] = chance.sample(free, min(len(free), chance.randint(0, most)))
    return shy


def walked_cases(seed, most=2):
    """Small houses, placings, and shy lists, with all that walks that keep these end by: (.., ends), by all starts."""
    chance = random.Random(seed)
    for rooms, doors in plain.small_houses(4):
        for many in range(min(most, len(rooms)) + 1):
            placing = dict(zip(["y", "x"][:many], chance.sample(rooms, many)))
            shy = drawn_shy(rooms, placing, chance, 2)
            yield rooms, doors, placing, shy, walked_ends(rooms, doors, placing, shy)


def walked_ends(rooms, doors, placing, shy):
    """The keys of the last faces of all walks that end by a placing and keep shy."""
    people = sorted(placing)
    ends = set()
    for start in plain.starts(rooms, people):
        for where, faces in plain.walked_from(rooms, doors, start, shy):
            if where == plain.row_of(placing, people):
                ends.add(faces)
    return ends


class TestExample(plain.Checks):
    def test_figures(self):
        self.assertEqual((must_rooms(H, P, F, "x"), could_rooms(H, P, F, "x")), (["a", "c"], ["a", "b", "c", "d"]))
        self.assertEqual(came_to(H, P, F), [("x", "y"), ("y", "x")])
        self.assertEqual(shy_why(H, P, F, {"x": ["b", "d"]}), ("rooms", ["a", "b", "d"]))
        self.assertEqual(claims_clash(H, P, F, [("x", "b"), ("x", "d")]), [0, 1])
        self.assertEqual(most_claims(H, P, F, [("x", "b"), ("x", "d")]), 1)
        self.assertEqual(needed_people(H, P, F, "c"), ["x", "y"])
        walk = ({"x": "c", "y": "d"}, [("x", "d"), ("x", "a"), ("y", "a"), ("y", "b")])
        self.judge_walk(H.rooms(), H.doors(), walk, P, F)
        self.assertIsNotNone(shy_walk(H, P, F, {"x": ["b"]}))


class TestShy(plain.Checks):
    def judge(self, rooms, doors, placing, faces, shy, can):
        house = House(rooms, doors)
        walk, why = shy_walk(house, placing, faces, shy), shy_why(house, placing, faces, shy)
        self.assertEqual((walk is not None, why is None), (can, can))
        if can:
            times = self.judge_walk(rooms, doors, walk, placing, faces)
            for where in times:
                for person, some in shy.items():
                    self.assertNotIn(where[person], some)
        else:
            other = [person for person in sorted(placing) if faces[placing[person]] != person]
            taken = sorted(plain_taken(doors, placing, faces, shy))
            self.assertEqual(why, ("room", other[0]) if other else ("rooms", taken))
            self.assertIs(is_shy_why(house, placing, faces, shy, why), True)

    def test_all_walks(self):
        """There are such walks just if all is taken in at last; one or a paper, never both."""
        chance = random.Random(1)
        for rooms, doors, placing, shy, ends in walked_cases(2):
            maps = plain.maps(rooms, [None, *placing])
            for faces in chance.sample(maps, min(len(maps), 25)):
                self.judge(rooms, doors, placing, faces, shy, plain.row_of(faces, rooms) in ends)

    def test_larger(self):
        chance = random.Random(3)
        found = set()
        for rooms, doors, placing, faces in plain.grown_cases(250, 4, sizes=(5, 6, 7), most=4):
            shy = drawn_shy(rooms, placing, chance)
            taken = plain_taken(doors, placing, faces, shy)
            can = all(room in taken for room in rooms if faces[room])
            found.add(can)
            self.judge(rooms, doors, placing, faces, shy, can)
        self.assertEqual(found, {True, False})

    def test_all_papers(self):
        """All lists of rooms, judged by the words of the point; there is a paper just if there is no walk."""
        chance = random.Random(5)
        for rooms, doors, placing, shy, ends in walked_cases(6):
            house = House(rooms, doors)
            maps = plain.maps(rooms, [None, "x", "y"])
            for faces in chance.sample(maps, min(len(maps), 6)):
                papers = 0
                for many in range(len(rooms) + 1):
                    for some in itertools.permutations(rooms, many):
                        right = set(placing.values()) <= set(some)
                        right = right and any(faces[room] and room not in some for room in rooms)
                        right = right and plain_taken(doors, placing, faces, shy, some) == set(some)
                        papers += right
                        self.assertIs(is_shy_why(house, placing, faces, shy, ("rooms", list(some))), right)
                        self.assertIs(is_shy_why(house, placing, faces, shy, ["rooms", some]), right)
                for person in [*placing, "z"]:
                    right = person in placing and faces[placing[person]] != person
                    papers += right
                    self.assertIs(is_shy_why(house, placing, faces, shy, ("room", person)), right)
                self.assertEqual(papers == 0, plain.row_of(faces, rooms) in ends)

    def test_any_objects(self):
        shy = {"x": ["b", "d"]}
        self.assertIs(is_shy_why(H, P, F, shy, ("rooms", ["d", "a", "b"])), True)
        wrong = [("rooms", ["a", "b"]), ("rooms", ["a", "b", "d", "d"]), ("rooms", "abd"), ("room",), "rooms",
                 ("rooms", {"a": 1, "b": 1, "d": 1}), ("rooms", ["a", "b", "d"], "c"), ("rooms", ["a", "b", "c", "d"]),
                 ("rooms", ["b", "d"]), ("Rooms", ["a", "b", "d"])]
        for thing in plain.odd_things() + wrong:
            self.assertIs(is_shy_why(H, P, F, shy, thing), False)
        for thing in plain.odd_things():
            self.assertIs(is_shy_why(H, P, F, shy, ("rooms", thing)), False)
            self.assertIs(is_shy_why(H, P, F, shy, ("rooms", ["a", "b", "d", thing])), False)
            self.assertIs(is_shy_why(H, P, F, shy, ("room", thing)), False)
            self.assertIs(is_shy_why(H, P, F, shy, (thing, ["a", "b", "d"])), False)

    def test_errors_in_order(self):
        for call in SHY_CALLS:
            for thing in plain.odd_things():
                if thing != {}:
                    self.raises((errors.BadPlacing, thing), call, H, thing, thing, None)
                    self.raises((errors.BadShy, thing), call, H, P, F, thing)
                self.raises((errors.BadMap, thing), call, H, P, thing, None)
                for shy in [{"x": thing}, {"x": [thing]}, {"y": [], "x": ["c", thing]}]:
                    if thing not in ([], ()):
                        self.raises((errors.BadShy, shy), call, H, P, F, shy)
            for shy in [{"z": []}, {"x": ["a"]}, {"x": ["b", "b"]}, {"x": ["c"], "y": ["a", "b"]}, {"x": "b"},
                        {"x": None}, {"x": {"b": 1}}, {None: []}, {1: ["b"]}, [("x", ["b"])]]:
                self.raises((errors.BadShy, shy), call, H, P, F, shy)
        self.assertIsNone(shy_why(H, P, F, {"x": [], "y": ()}))
        self.assertEqual(shy_why(H, P, {**F, "b": None, "a": "y"}, {}), ("room", "x"))


class TestMust(plain.Checks):
    def times_of(self, rooms, doors, placing, faces):
        """For each walk's set of visits that ends so: the frozensets of the pairs (person, room) that were visited."""
        people = sorted(placing)
        told = set()
        first = [(tuple(where), (None,) * len(rooms), frozenset(zip(people, where)))
                 for where in itertools.product(rooms, repeat=len(people))]
        seen, queue = set(first), list(first)
        while queue:
            where, out, visits = queue.pop()
            if all(where[index] == placing[person] for index, person in enumerate(people)):
                last = [people[where.index(room)] if room in where else face for room, face in zip(rooms, out)]
                if tuple(last) == plain.row_of(faces, rooms):
                    told.add(visits)
            for index, person in enumerate(people):
                at = rooms.index(where[index])
                left = out[:at] + (person,) + out[at + 1:]
                for room in plain.near(doors, where[index]):
                    state = (where[:index] + (room,) + where[index + 1:], left, visits | {(person, room)})
                    if state not in seen:
                        seen.add(state)
                        queue.append(state)
        return told

    def test_all_walks(self):
        chance = random.Random(7)
        cases = [case for case in plain.going_cases(plain.small_houses(4), 2) if len(case[2]) == 2 and len(case[0]) > 2]
        clashes = 0
        for rooms, doors, placing, faces in chance.sample(cases, 60):
            walks = self.times_of(rooms, doors, placing, faces)
            house = House(rooms, doors)
            for person in placing:
                must = [room for room in sorted(rooms) if all((person, room) in visits for visits in walks)]
                could = [room for room in sorted(rooms) if any((person, room) in visits for visits in walks)]
                self.assertEqual(must_rooms(house, placing, faces, person), must)
                self.assertEqual(could_rooms(house, placing, faces, person), could)
            pairs = [(one, other) for one in sorted(placing) for other in sorted(placing) if one != other
                     and all(any((one, room) in visits for room in rooms if faces[room] == other) for visits in walks)]
            self.assertEqual(came_to(house, placing, faces), pairs)
            all_claims = [(person, room) for person in placing for room in rooms if room != placing[person]]
            claims = [chance.choice(all_claims) for _ in range(chance.randint(0, 5))]
            self.judge_claims(house, placing, faces, claims, walks)
            clashes += claims_clash(house, placing, faces, claims) is not None
        self.assertGreater(clashes, 15)

    def judge_claims(self, house, placing, faces, claims, walks):
        def can(some):
            return any(not visits & {tuple(claims[index]) for index in some} for visits in walks)

        indexes = range(len(claims))
        lists = [list(some) for many in range(len(claims) + 1) for some in itertools.combinations(indexes, many)]
        clash = next((some for some in lists if not can(some)), None)
        self.assertEqual(claims_clash(house, placing, faces, claims), clash)
        self.assertIs(claims_can_be(house, placing, faces, [list(claim) for claim in claims]), clash is None)
        most = max(len(some) for some in lists if can(some))
        self.assertEqual(most_claims(house, placing, faces, tuple(claims)), most)

    def test_larger(self):
        chance = random.Random(8)
        for rooms, doors, placing, faces in plain.grown_cases(60, 9, sizes=(5, 6, 7), most=4):
            house = House(rooms, doors)

            def can(shy):
                taken = plain_taken(doors, placing, faces, shy)
                return all(room in taken for room in rooms if faces[room])

            for person in placing:
                must = [room for room in sorted(rooms) if room == placing[person] or not can({person: [room]})]
                self.assertEqual(must_rooms(house, placing, faces, person), must)
                self.assertTrue(set(rooms) >= set(could_rooms(house, placing, faces, person)) >= set(must))
            shows = {person: [room for room in rooms if faces[room] == person] for person in placing}
            pairs = [(one, other) for one in sorted(placing) for other in sorted(placing)
                     if one != other and not can({one: shows[other]})]
            self.assertEqual(came_to(house, placing, faces), pairs)
            for room in rooms:
                if faces[room]:
                    wanted = self.plain_needed(doors, placing, faces, room)
                    self.assertEqual(needed_people(house, placing, faces, room), wanted)

    def plain_needed(self, doors, placing, faces, room):
        told = []
        for person in sorted(placing):
            others = {other: placing[other] for other in placing if other != person}
            left = {seen: None if face == person else face for seen, face in faces.items()}
            if room not in plain.plain_closure(doors, others, left):
                told.append(person)
        return told

    def test_needed_by_all_rows(self):
        """Without a person no row of rooms that show others has the room."""
        for rooms, doors, placing, faces in plain.going_cases(plain.small_houses(4), 3, every=9):
            house = House(rooms, doors)
            for room in rooms:
                if faces[room]:
                    told = needed_people(house, placing, faces, room)
                    self.assertIn(faces[room], told)
                    self.assertEqual(told, self.plain_needed(doors, placing, faces, room))
                else:
                    self.raises((errors.NotSeen, room), needed_people, house, placing, faces, room)

    def test_facts(self):
        """One can need another, not the other way about; and one another, that one a third, but the first not it."""
        one_way = no_chain = False
        for rooms, doors, placing, faces in plain.grown_cases(120, 11, sizes=(6, 7), most=3):
            house = House(rooms, doors)
            needs = {(faces[room], person) for room in rooms if faces[room]
                     for person in needed_people(house, placing, faces, room)}
            for one, other in needs:
                one_way = one_way or (other, one) not in needs
                no_chain = no_chain or any((other, third) in needs and (one, third) not in needs for third in placing)
        self.assertEqual((one_way, no_chain), (True, True))
        row = House(["a", "b", "c", "d"], [("a", "b"), ("b", "c"), ("c", "d")])
        placing, faces = {"x": "a", "y": "b"}, {"a": "x", "b": "y", "c": "x", "d": "y"}
        self.assertEqual(needed_people(row, placing, faces, "c"), ["x", "y"])
        self.assertEqual(needed_people(row, placing, faces, "b"), ["y"])

    def test_errors_in_order(self):
        for call in [must_rooms, could_rooms, needed_people]:
            for thing in plain.odd_things():
                if thing != {}:
                    self.raises((errors.BadPlacing, thing), call, H, thing, thing, None)
                self.raises((errors.BadMap, thing), call, H, P, thing, None)
        for call in [came_to, *[lambda *told, call=call: call(*told, []) for call in OF_CLAIMS]]:
            for thing in plain.odd_things():
                if thing != {}:
                    self.raises((errors.BadPlacing, thing), call, H, thing, thing)
                self.raises((errors.BadMap, thing), call, H, P, thing)
            self.stuck(call)
        for call in [must_rooms, could_rooms]:
            for thing in plain.odd_things() + ["z", "a"]:
                self.raises((errors.NotPlaced, thing), call, H, P, STUCK, thing)
            self.stuck(call, "x")
        for thing in plain.odd_things() + ["x"]:
            self.raises((errors.NoRoom, thing), needed_people, H, P, STUCK, thing)
        self.raises((errors.NotSeen, "d"), needed_people, H, P, {**STUCK, "d": None}, "d")
        self.stuck(needed_people, "d")

    def stuck(self, call, *args):
        for faces in (STUCK, {**F, "a": None}):
            with self.assertRaises(errors.NoWalks) as caught:
                call(H, P, faces, *args)
            self.assertEqual(caught.exception.why, why_not(H, P, faces))


class TestClaims(plain.Checks):
    def test_wrong(self):
        for call in OF_CLAIMS:
            for thing in plain.odd_things():
                if thing != {}:
                    self.raises((errors.BadPlacing, thing), call, H, thing, thing, None)
                self.raises((errors.BadMap, thing), call, H, P, thing, None)
            for thing in plain.no_lists():
                self.raises((errors.BadClaims, 0), call, H, P, STUCK, thing)
            wrong = [("x", "a"), ("z", "a"), ("a", "x"), ("x", "b", "c"), ("x", "e"), ["y", "b"], ("x",)]
            for thing in plain.no_pairs() + wrong:
                self.raises((errors.BadClaims, 0), call, H, P, STUCK, [thing, None])
                self.raises((errors.BadClaims, 2), call, H, P, STUCK, [("x", "b"), ["x", "b"], thing])

    def test_same_ones(self):
        self.assertEqual(most_claims(H, P, F, [("x", "b"), ("x", "d"), ("x", "b")]), 2)
        self.assertEqual(claims_clash(H, P, F, [("x", "b"), ("x", "b"), ("x", "d")]), [0, 2])
        self.assertIs(claims_can_be(H, P, F, [("x", "b")] * 9), True)
        self.assertEqual(most_claims(H, P, F, [("x", "c")]), 0)
        self.assertEqual(claims_clash(H, P, F, [("y", "a"), ("x", "c")]), [1])
        self.assertEqual([call(H, P, F, []) for call in OF_CLAIMS], [True, None, 0])


class TestLimits(plain.Checks):
    def test_sixty_rooms(self):
        chance = random.Random(10)
        for many in (62, 90):
            rooms, doors = plain.drawn_house(60, many, chance)
            names = [f"p{index:02d}" for index in range(20)]
            placing = dict(zip(names, chance.sample(rooms, 20)))
            faces = plain.grown_map(rooms, doors, placing, chance)
            house = House(rooms, doors)
            pairs = came_to(house, placing, faces)
            for one, other in chance.sample([(a, b) for a in names for b in names if a != b], 6):
                shy = {one: [room for room in rooms if faces[room] == other]}
                walk = shy_walk(house, placing, faces, shy)
                self.assertEqual(walk is None, (one, other) in pairs)
                if walk is not None:
                    self.judge_walk(rooms, doors, walk, placing, faces)
                taken = plain_taken(doors, placing, faces, shy)
                is_all = all(room in taken for room in rooms if faces[room])
                self.assertEqual(shy_why(house, placing, faces, shy) is None, is_all)
            must, could = [call(house, placing, faces, names[3]) for call in (must_rooms, could_rooms)]
            self.assertLessEqual(set(must), set(could))
            claims = []
            while len(claims) < 8:
                claim = chance.choice(names), chance.choice(rooms)
                if placing[claim[0]] != claim[1]:
                    claims.append(claim)
            clash = claims_clash(house, placing, faces, claims)
            self.assertEqual(clash is None, most_claims(house, placing, faces, claims) == 8)
            room = chance.choice([room for room in rooms if faces[room]])
            self.assertIn(faces[room], needed_people(house, placing, faces, room))


if __name__ == "__main__":
    unittest.main()
