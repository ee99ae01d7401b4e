"""Points [25], [26] and [31], and what [32] says of these."""

import itertools
import random
import unittest

import plain
from lastfaces import errors
from lastfaces.houses import House
from lastfaces.lastamong import can_stand, last_among, last_clash, sure_last
from lastfaces.lastrooms import in_two, some_last

R = House(["a", "b", "c", "d"], [("a", "b"), ("b", "c"), ("c", "d")])
F = {"a": "p", "b": "q", "c": "p", "d": "q"}


def map_cases():
    """Houses and maps: all of up to three rooms, some of four rooms and more."""
    for rooms, doors in plain.small_houses():
        told = plain.maps(rooms, [None, "y", "x", "z"])
        for faces in itertools.islice(told, 0, None, 5 if len(rooms) > 3 else 1):
            yield rooms, doors, faces
    yield from plain.larger_cases(250, 11)


def list_cases(rooms, faces, chance):
    """Some lists: none, one room for each person, drawn ones, an empty one."""
    people = sorted({face for face in faces.values() if face is not None})
    yield {}
    yield {person: [chance.choice(plain.rooms_showing(rooms, faces, person))] for person in people}
    yield plain.drawn_lists(rooms, faces, chance)
    yield {person: [chance.choice(plain.rooms_showing(rooms, faces, person))] for person in people[1:]}
    if people:
        yield {people[-1]: []}


def plain_clash(placings, lists):
    for many in range(len(lists) + 1):
        for some in itertools.combinations(sorted(lists), many):
            if not plain.keeping(placings, {person: lists[person] for person in some}):
                return list(some)
    return None


class TestExample(plain.Checks):
    def test_figures(self):
        self.assertEqual(last_clash(R, F, {"p": ["a"], "q": ["d"]}), ["p", "q"])
        self.assertEqual(can_stand(R, F, {"q": ["d"]}, "p"), ["c"])
        self.assertEqual(sure_last(R, F, {"q": ["d"]}), {"p": "c", "q": "d"})
        self.assertEqual(in_two(R, {**F, "b": None}), ("p", "a", "c"))
        self.assertIsNone(in_two(R, F))
        self.assertIsNone(some_last(R, {**F, "b": None}))
        self.assertIn(some_last(R, F), [{"p": "a", "q": "b"}, {"p": "c", "q": "b"}, {"p": "c", "q": "d"}])
        self.assertEqual(last_among(R, F, {"q": ["d"]}), {"p": "c", "q": "d"})
        self.assertIsNone(last_among(R, F, {"p": ["a"], "q": ["d"]}))
        self.assertIsNone(last_clash(R, F, {"q": ["d"]}))


class TestSomeLast(plain.Checks):
    def test_all(self):
        for rooms, doors, faces in map_cases():
            house = House(rooms, doors)
            going = plain.going_placings(rooms, doors, faces)
            told = some_last(house, faces)
            two = in_two(house, faces)
            self.assertEqual(two, self.plain_two(rooms, doors, faces))
            self.assertIs(told is None, two is not None)
            if told is None:
                self.assertEqual(going, [])
                continue
            self.assertIn(told, going)
            self.ascends(told)
            for room in rooms:
                if faces[room]:
                    self.assertTrue(any(placing[faces[room]] == room for placing in going))

    def plain_two(self, rooms, doors, faces):
        pieces = plain.plain_parts(doors, [room for room in rooms if faces[room]])
        for person in sorted({face for face in faces.values() if face}):
            firsts = [min(room for room in piece if faces[room] == person)
                      for piece in pieces if any(faces[room] == person for room in piece)]
            if len(firsts) > 1:
                return person, firsts[0], firsts[1]
        return None

    def test_all_walks(self):
        """The placings that are gone through here are just those of walks."""
        for rooms, doors in plain.small_houses(3) + plain.small_houses()[-11::2]:
            for people in [[], ["x"], ["x", "y"]]:
                ends = plain.walked_ends(rooms, doors, people)
                for faces in plain.maps(rooms, [None, *people]):
                    if {face for face in faces.values() if face} == set(people):
                        going = [placing for placing in plain.placings(rooms, people)
                                 if (plain.map_key(placing), plain.map_key(faces)) in ends]
                        key = [sorted(placing.items()) for placing in plain.going_placings(rooms, doors, faces)]
                        self.assertEqual(sorted(sorted(placing.items()) for placing in going), key)

    def test_pieces_by_their_first_rooms(self):
        house = House(["a", "b", "c", "d", "e"], [("a", "e"), ("b", "d")])
        faces = {"a": "q", "b": "q", "c": None, "d": "p", "e": "p"}
        # The piece of "a" is the first one, though "d" is ahead of "e".
        self.assertEqual(in_two(house, faces), ("p", "e", "d"))
        self.assertEqual(in_two(house, {**faces, "d": "q"}), ("q", "a", "b"))
        self.assertEqual(in_two(house, {**faces, "c": "p", "d": "q"}), ("p", "e", "c"))

    def test_nobody(self):
        self.assertEqual(some_last(R, dict.fromkeys("abcd")), {})
        self.assertIsNone(in_two(R, dict.fromkeys("abcd")))
        self.assertEqual(last_among(R, dict.fromkeys("abcd"), {}), {})
        self.assertEqual(sure_last(R, dict.fromkeys("abcd"), {}), {})
        self.assertIsNone(last_clash(R, dict.fromkeys("abcd"), {}))

    def test_same_for_other_orders(self):
        for rooms, doors, faces in itertools.islice(map_cases(), 0, None, 3):
            again = House(tuple(rooms[::-1]), [list(door[::-1]) for door in doors[::-1]])
            self.assertEqual(some_last(House(rooms, doors), faces), some_last(again, plain.other_order(faces)))


class TestLastAmong(plain.Checks):
    def test_all(self):
        chance = random.Random(5)
        for rooms, doors, faces in map_cases():
            going = plain.going_placings(rooms, doors, faces)
            for lists in list_cases(rooms, faces, chance):
                self.judge(House(rooms, doors), faces, lists, going)

    def judge(self, house, faces, lists, going):
        kept = plain.keeping(going, lists)
        told = last_among(house, faces, lists)
        clash = last_clash(house, faces, lists)
        self.assertEqual(clash, None if kept else plain_clash(going, lists))
        self.assertIs(told is None, clash is not None)
        sure = sure_last(house, faces, lists)
        if kept:
            self.assertIn(told, kept)
            self.ascends(told)
            self.ascends(sure)
        else:
            self.assertIsNone(told)
            self.assertIsNone(sure)
        for person in sorted({face for face in faces.values() if face}):
            rooms = sorted({placing[person] for placing in kept})
            self.assertEqual(can_stand(house, faces, lists, person), rooms)
            if kept:
                self.assertEqual(sure.get(person), rooms[0] if len(rooms) == 1 else None)
        if kept:
            self.assertLessEqual(set(sure), set(faces.values()))
        for call in [last_among, last_clash, sure_last]:
            told = call(house, faces, lists)
            for other in [*plain.both_kinds(lists), plain.other_order(lists)]:
                self.assertEqual(call(house, plain.other_order(faces), other), told)

    def test_every_list_of_a_row(self):
        rooms, doors = ["d", "b", "e", "a", "c"], [("a", "b"), ("b", "c"), ("c", "d"), ("d", "e")]
        faces = {"a": "p", "b": "q", "c": "p", "d": "q", "e": "r"}
        going = plain.going_placings(rooms, doors, faces)
        choices = []
        for person in "pqr":
            shows = plain.rooms_showing(rooms, faces, person)
            choices.append([None] + [list(some) for k in range(len(shows) + 1)
                                     for some in itertools.combinations(shows, k)])
        for chosen in itertools.product(*choices):
            lists = {person: some for person, some in zip("pqr", chosen) if some is not None}
            self.judge(House(rooms, doors), faces, lists, going)

    def test_clash_of_no_placing_at_all(self):
        faces = {**F, "b": None}
        for lists in [{}, {"p": ["a"]}, {"p": []}, {"q": ["d"], "p": ["a", "c"]}]:
            self.assertEqual(last_clash(R, faces, lists), [])
            self.assertIsNone(last_among(R, faces, lists))
            self.assertIsNone(sure_last(R, faces, lists))
            self.assertEqual(can_stand(R, faces, lists, "p"), [])

    def test_shortest_then_first(self):
        # Two pieces: in one "q" alone has no room, in the other "a" and "b" are two told rooms too many.
        house = House(["k", "l", "m", "n", "o"], [("k", "l"), ("l", "m"), ("m", "n")])
        faces = {"k": "a", "l": "b", "m": "a", "n": "b", "o": "q"}
        self.assertEqual(last_clash(house, faces, {"a": ["k"], "b": ["n"], "q": []}), ["q"])
        self.assertEqual(last_clash(house, faces, {"a": [], "b": ["n"], "q": []}), ["a"])
        self.assertEqual(last_clash(house, faces, {"b": ("n",), "a": ("k",), "q": ("o",)}), ["a", "b"])
        self.assertEqual(can_stand(house, faces, {"q": []}, "a"), [])
        self.assertIsNone(sure_last(house, faces, {"q": []}))


class TestFacts(plain.Checks):
    def test_two_people_in_one_piece(self):
        for rooms, doors, faces in plain.larger_cases(150, 12, people="pq"):
            seen = [room for room in rooms if faces[room]]
            if len(plain.plain_parts(doors, seen)) == 1 and {faces[room] for room in seen} == {"p", "q"}:
                for one in plain.rooms_showing(rooms, faces, "p"):
                    for other in plain.rooms_showing(rooms, faces, "q"):
                        fields = [plain.component(doors, plain.rooms_showing(rooms, faces, faces[room]), room)
                                  for room in (one, other)]
                        touch = any(b in fields[1] for a in fields[0] for b in plain.near(doors, a))
                        told = last_among(House(rooms, doors), faces, {"p": [one], "q": [other]})
                        self.assertIs(told is not None, touch)

    def test_fields_that_hang_together(self):
        for rooms, doors, faces in plain.larger_cases(150, 13):
            people = sorted({face for face in faces.values() if face})
            if any(len(plain.plain_parts(doors, plain.rooms_showing(rooms, faces, p))) > 1 for p in people):
                continue
            if len(plain.plain_parts(doors, [room for room in rooms if faces[room]])) == 1:
                for chosen in itertools.product(*[plain.rooms_showing(rooms, faces, p) for p in people]):
                    lists = {person: [room] for person, room in zip(people, chosen)}
                    told = {person: room for person, room in zip(people, chosen)}
                    self.assertEqual(last_among(House(rooms, doors), faces, lists), told)

    def test_two_told_rooms_too_many(self):
        self.assertIsNone(last_among(R, F, {"p": ["a"], "q": ["d"]}))
        self.assertIsNotNone(last_among(R, F, {"p": ["a"]}))
        self.assertIsNotNone(last_among(R, F, {"q": ["d"]}))


class TestWrong(plain.Checks):
    def test_bad_map(self):
        for thing in plain.odd_things() + [{**F, "a": 1}, {**F, "e": None}]:
            for call in [some_last, in_two]:
                self.raises((errors.BadMap, thing), call, R, thing)
            for call in [last_among, last_clash, sure_last]:
                self.raises((errors.BadMap, thing), call, R, thing, thing)
            self.raises((errors.BadMap, thing), can_stand, R, thing, None, None)

    def test_bad_lists(self):
        wrong = [{"p": ["b"]}, {"p": ["a", "a"]}, {"p": ["a", "e"]}, {"p": "a"}, {"p": {"a": 1}}, {"r": []},
                 {None: []}, {"p": None}, {"p": [["a"]]}, {"q": ["b"], "p": ["a", "b"]}, {1: ["a"]}]
        for thing in wrong + [{"p": [thing]} for thing in plain.odd_things()] + plain.odd_things():
            if thing in ({}, {"q": []}):
                continue
            for call in [last_among, last_clash, sure_last]:
                self.raises((errors.BadLists, thing), call, R, F, thing)
            self.raises((errors.BadLists, thing), can_stand, R, F, thing, 1)
        for thing in plain.no_lists():
            lists = {"q": ["b"], "p": thing}
            self.raises((errors.BadLists, lists), last_among, R, F, lists)
        # People whose face no room shows have no list, even where None is seen.
        lists = {None: ["a"]}
        self.raises((errors.BadLists, lists), last_clash, R, {**F, "a": None}, lists)

    def test_bad_person(self):
        for thing in plain.no_names():
            self.raises((errors.BadPerson, thing), can_stand, R, F, {}, thing)
        self.raises((errors.NotShown, "r"), can_stand, R, F, {}, "r")
        self.raises((errors.NotShown, "a"), can_stand, R, {**F, "b": None}, {"p": []}, "a")


class TestLimits(plain.Checks):
    def house(self, extra):
        rooms = [f"r{k:02d}" for k in range(60)]
        return rooms, House(rooms, list(zip(rooms, rooms[1:])) + [(rooms[k], rooms[k + 7]) for k in extra])

    def test_sixty_rooms_twenty_people(self):
        rooms, house = self.house([])
        faces = {room: f"p{k % 20:02d}" for k, room in enumerate(rooms)}
        told = some_last(house, faces)
        self.assertTrue(plain.plain_goes(house.doors(), told, faces))
        self.assertEqual(len(told), 20)
        faces[rooms[30]] = None
        self.assertEqual(in_two(house, faces), ("p00", rooms[0], rooms[40]))

    def test_sixty_rooms_seven_people(self):
        for extra in [[], range(0, 53), range(3, 50, 5)]:
            rooms, house = self.house(extra)
            for step in [1, 3, 5]:
                faces = {room: f"p{k * step % 7}" for k, room in enumerate(rooms)}
                lists = {"p1": [room for room in rooms[:20] if faces[room] == "p1"],
                         "p4": [room for room in rooms[40:] if faces[room] == "p4"]}
                told = last_among(house, faces, lists)
                if told is not None:
                    self.assertTrue(plain.plain_goes(house.doors(), told, faces))
                    self.assertTrue(all(told[person] in lists[person] for person in lists))
                    self.assertIn(told["p2"], can_stand(house, faces, lists, "p2"))
                    self.assertLessEqual(set(sure_last(house, faces, lists).items()), set(told.items()))
                self.assertIs(told is None, last_clash(house, faces, lists) is not None)

    def test_clash_of_six(self):
        rooms, house = self.house([])
        faces = {room: f"p{k % 6}" for k, room in enumerate(rooms)}
        lists = {f"p{k}": [rooms[k if k < 3 else 54 + k]] for k in range(6)}
        clash = last_clash(house, faces, lists)
        self.assertIsNone(last_among(house, faces, {person: lists[person] for person in clash}))
        for person in clash:
            less = {other: lists[other] for other in clash if other != person}
            self.assertIsNotNone(last_among(house, faces, less))


if __name__ == "__main__":
    unittest.main()
