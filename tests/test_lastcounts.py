"""Point [28], and what [32] says of it."""

import itertools
import random
import unittest

import plain
from lastfaces import errors
from lastfaces.houses import House
from lastfaces.lastamong import last_clash
from lastfaces.lastcounts import count_last, drawn_last, last_at, last_number

R = House(["a", "b", "c", "d"], [("a", "b"), ("b", "c"), ("c", "d")])
F = {"a": "p", "b": "q", "c": "p", "d": "q"}
ALL = [{"p": "a", "q": "b"}, {"p": "c", "q": "b"}, {"p": "c", "q": "d"}]


def cases():
    for rooms, doors in plain.small_houses():
        told = plain.maps(rooms, [None, "y", "x", "z"])
        for faces in itertools.islice(told, 0, None, 11 if len(rooms) > 3 else 1):
            yield rooms, doors, faces
    yield from plain.larger_cases(200, 31)


class Wrong(Exception):
    pass


class TestCounted(plain.Checks):
    def test_figures(self):
        self.assertEqual(count_last(R, F, {}), 3)
        self.assertEqual([last_at(R, F, {}, number) for number in range(3)], ALL)
        self.assertEqual([last_number(R, F, {}, placing) for placing in ALL], [0, 1, 2])

    def test_all(self):
        chance = random.Random(8)
        for rooms, doors, faces in cases():
            house = House(rooms, doors)
            going = plain.going_placings(rooms, doors, faces)
            for lists in [{}, plain.drawn_lists(rooms, faces, chance)]:
                kept = plain.keeping(going, lists)
                self.assertEqual(count_last(house, faces, lists), len(kept))
                for number, placing in enumerate(kept):
                    told = last_at(house, faces, lists, number)
                    self.assertEqual(told, placing)
                    self.ascends(told)
                    self.assertEqual(last_number(house, faces, lists, plain.other_order(placing)), number)
                    self.assertEqual(drawn_last(house, faces, lists, lambda many, number=number: number), placing)
                for placing in going:
                    if placing not in kept:
                        self.raises((errors.NotGoing, placing), last_number, house, faces, lists, placing)
                self.raises((errors.BadNumber, len(kept)), last_at, house, faces, lists, len(kept))
                if not kept:
                    told = last_clash(house, faces, lists)
                    with self.assertRaises(errors.NoneGoes) as caught:
                        drawn_last(house, faces, lists, None)
                    self.assertEqual(caught.exception.people, told)
                    self.assertIs(type(caught.exception.people), list)

    def test_families(self):
        """Choices are as many as those that go, and those that end in each family that cannot go on."""
        for rooms, doors, faces in itertools.islice(cases(), 0, None, 4):
            people = sorted({face for face in faces.values() if face})
            seen = [room for room in rooms if faces[room]]
            if len(plain.plain_parts(doors, seen)) == 1:
                choices = 1
                for person in people:
                    choices *= len(plain.rooms_showing(rooms, faces, person))
                stuck = self.stuck(rooms, doors, faces, people, [])
                self.assertEqual(count_last(House(rooms, doors), faces, {}), choices - stuck)

    def stuck(self, rooms, doors, faces, people, ahead):
        """How many choices end in families of two fields or more that go on from some, each of another lot."""
        if not people:
            return self.joining(rooms, doors, faces, ahead) if len(ahead) > 1 else 0
        many = 0
        for size in range(len(people)):
            for others in itertools.combinations(people[1:], size):
                lot = [people[0], *others]
                left = [person for person in people if person not in lot]
                for field in plain.plain_fields(rooms, doors, faces, lot):
                    around = {b for a in field for b in plain.near(doors, a)}
                    if not any(around & set(other) for _, other in ahead):
                        many += self.stuck(rooms, doors, faces, left, ahead + [(lot, field)])
        return many

    def joining(self, rooms, doors, faces, family):
        many = 1
        for lot, field in family:
            shows = [[room for room in field if faces[room] == person] for person in lot]
            joins = [chosen for chosen in itertools.product(*shows)
                     if plain.plain_joined(rooms, doors, faces, {p: [room] for p, room in zip(lot, chosen)}) == [field]]
            many *= len(joins)
        return many

    def test_several_pieces(self):
        rooms = [f"r{k:02d}" for k in range(60)]
        house = House(rooms, [(rooms[k], rooms[k + 1]) for k in range(59) if k % 3 != 2])
        # People are named so that their order is not that of their pieces.
        faces = {room: f"p{k // 3 * 7 % 20:02d}" for k, room in enumerate(rooms)}
        many = 3 ** 20
        self.assertEqual(count_last(house, faces, {}), many)
        self.assertEqual(count_last(house, faces, {"p00": [rooms[0]], "p07": (rooms[5], rooms[3])}), many // 9 * 2)
        for number in [0, 1, 2, 3, many // 3, 1234567890, many - 1]:
            placing = last_at(house, faces, {}, number)
            digits = [plain.rooms_showing(rooms, faces, person).index(placing[person]) for person in sorted(placing)]
            self.assertEqual(int("".join(map(str, digits)), 3), number)
            self.assertEqual(last_number(house, faces, {}, placing), number)
        self.raises((errors.BadNumber, many), last_at, house, faces, {}, many)

    def test_nobody(self):
        none = dict.fromkeys("abcd")
        self.assertEqual(count_last(R, none, {}), 1)
        self.assertEqual(last_at(R, none, {}, 0), {})
        self.assertEqual(last_number(R, none, {}, {}), 0)
        self.assertEqual(drawn_last(R, none, {}, lambda many: many - 1), {})

    def test_shown_in_two_pieces(self):
        faces = {**F, "b": None}
        self.assertEqual(count_last(R, faces, {}), 0)
        self.raises((errors.BadNumber, 0), last_at, R, faces, {}, 0)
        for placing in ALL:
            self.raises((errors.NotGoing, placing), last_number, R, faces, {}, placing)
        with self.assertRaises(errors.NoneGoes) as caught:
            drawn_last(R, faces, {"p": []}, lambda many: 0)
        self.assertEqual(caught.exception.people, [])


class TestChooser(plain.Checks):
    def test_is_handed_how_many_once(self):
        handed = []

        def chooser(*things):
            handed.append(things)
            return 1

        self.assertEqual(drawn_last(R, F, {}, chooser), ALL[1])
        self.assertEqual(handed, [(3,)])
        self.assertIs(type(handed[0][0]), int)

    def test_is_not_asked_if_there_are_none(self):
        handed = []
        with self.assertRaises(errors.NoneGoes) as caught:
            drawn_last(R, F, {"p": ["a"], "q": ["d"]}, handed.append)
        self.assertEqual((caught.exception.people, handed), (["p", "q"], []))

    def test_wrong_numbers(self):
        for thing in [thing for thing in plain.odd_things() if type(thing) is not int or thing not in (0, 1)]:
            self.raises((errors.BadNumber, thing), drawn_last, R, F, {}, lambda many, thing=thing: thing)
            self.raises((errors.BadNumber, thing), last_at, R, F, {}, thing)
        for thing in [3, -1, -3, 4, True, False]:
            self.raises((errors.BadNumber, thing), drawn_last, R, F, {}, lambda many, thing=thing: thing)

    def test_its_error_goes_through(self):
        for error in [Wrong, KeyError, ValueError, errors.BadMap]:
            def chooser(many, error=error):
                raise error(many)

            with self.assertRaises(error) as caught:
                drawn_last(R, F, {}, chooser)
            self.assertIs(type(caught.exception), error)

    def test_may_change_what_was_passed(self):
        faces, lists = dict(F), {"p": ["a", "c"]}

        def chooser(many):
            faces.update(a="q", b="q")
            lists["p"].remove("c")
            return 1

        self.assertEqual(drawn_last(R, faces, lists, chooser), ALL[1])


class TestWrong(plain.Checks):
    def test_errors_in_order(self):
        for thing in plain.odd_things():
            for call in [last_at, last_number, drawn_last]:
                self.raises((errors.BadMap, thing), call, R, thing, thing, thing)
                if thing not in ({}, {"q": []}):
                    self.raises((errors.BadLists, thing), call, R, F, thing, thing)
            self.raises((errors.BadMap, thing), count_last, R, thing, thing)
            if thing not in ({}, {"q": []}):
                self.raises((errors.BadLists, thing), count_last, R, F, thing)

    def test_not_going(self):
        wrong = [{"p": "a", "q": "d"}, {"p": "a"}, {"q": "b"}, {"p": "b", "q": "a"}, {"p": "a", "q": "a"},
                 {"p": "a", "q": "b", "r": "c"}, {"p": "a", "q": ["b"]}, [("p", "a"), ("q", "b")], {"P": "a", "q": "b"}]
        for thing in wrong + plain.odd_things():
            self.raises((errors.NotGoing, thing), last_number, R, F, {}, thing)
        self.raises((errors.NotGoing, ALL[0]), last_number, R, F, {"p": ["c"]}, ALL[0])


class TestLimits(plain.Checks):
    def test_twenty_rooms_five_people(self):
        rooms = [f"r{k:02d}" for k in range(20)]
        chance = random.Random(1)
        row = list(zip(rooms, rooms[1:]))
        tree = [(rooms[(k - 1) // 3], rooms[k]) for k in range(1, 20)]
        for doors in [row, row + [(rooms[k], rooms[k + 5]) for k in range(0, 15, 4)], tree]:
            for faces in [{room: "pqrst"[k % 5] for k, room in enumerate(rooms)},
                          {room: chance.choice("pqrst") for room in rooms}]:
                house = House(rooms, doors)
                going = plain.going_placings(rooms, doors, faces)
                self.assertEqual(count_last(house, faces, {}), len(going))
                for number in range(0, len(going), 97):
                    self.assertEqual(last_at(house, faces, {}, number), going[number])
                    self.assertEqual(last_number(house, faces, {}, going[number]), number)


if __name__ == "__main__":
    unittest.main()
