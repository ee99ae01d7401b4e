"""Point [27], and what [32] says of fields."""

import itertools
import random
import unittest

import plain
from lastfaces import errors
from lastfaces.fields import fields, joined_fields
from lastfaces.houses import House

R = House(["a", "b", "c", "d"], [("a", "b"), ("b", "c"), ("c", "d")])
F = {"a": "p", "b": "q", "c": "p", "d": "q"}


def cases():
    for rooms, doors in plain.small_houses():
        told = plain.maps(rooms, [None, "y", "x", "z"])
        for faces in itertools.islice(told, 0, None, 7 if len(rooms) > 3 else 1):
            yield rooms, doors, faces
    yield from plain.larger_cases(150, 21)


class TestFields(plain.Checks):
    def test_figures(self):
        self.assertEqual(fields(R, F, ["p"]), [["a"], ["c"]])
        self.assertEqual(joined_fields(R, F, {"p": ["a"]}, ["p", "q"]), [["a", "b", "c", "d"]])

    def test_all(self):
        chance = random.Random(2)
        for rooms, doors, faces in cases():
            house = House(rooms, doors)
            people = sorted({face for face in faces.values() if face})
            for many in range(1, len(people) + 1):
                for some in itertools.permutations(people, many):
                    if list(some) == sorted(some) or chance.random() < 0.2:
                        self.judge(house, rooms, doors, faces, some, chance)

    def judge(self, house, rooms, doors, faces, some, chance):
        wanted = plain.plain_fields(rooms, doors, faces, some)
        for people in plain.both_kinds(some):
            self.assertEqual(fields(house, faces, people), wanted)
        for lists in [{}, plain.drawn_lists(rooms, faces, chance)]:
            choices = {p: lists.get(p, plain.rooms_showing(rooms, faces, p)) for p in sorted(some)}
            wanted = plain.plain_joined(rooms, doors, faces, choices)
            for other in plain.both_kinds(lists):
                self.assertEqual(joined_fields(house, faces, other, some), wanted)

    def test_one_person_in_each_room_of_a_field(self):
        for rooms, doors, faces in itertools.islice(cases(), 0, None, 3):
            for room in rooms:
                if faces[room]:
                    field = plain.component(doors, plain.rooms_showing(rooms, faces, faces[room]), room)
                    told = joined_fields(House(rooms, doors), faces, {faces[room]: [room]}, [faces[room]])
                    self.assertEqual(told, [sorted(field)])

    def test_people_in_several_pieces(self):
        faces = {"a": "p", "b": None, "c": "p", "d": "q"}
        self.assertEqual(fields(R, faces, ["q", "p"]), [["a"], ["c", "d"]])
        self.assertEqual(joined_fields(R, faces, {}, ["p", "q"]), [["c", "d"]])
        self.assertEqual(joined_fields(R, faces, {}, ["p"]), [["a"], ["c"]])
        self.assertEqual(joined_fields(R, faces, {"p": ["a"]}, ["p", "q"]), [])
        self.assertEqual(joined_fields(R, faces, {"p": []}, ["p"]), [])

    def test_lists_of_others_are_nothing_to_it(self):
        self.assertEqual(joined_fields(R, F, {"p": []}, ["q"]), [["b"], ["d"]])


class TestWrong(plain.Checks):
    def test_bad_map_and_lists(self):
        for thing in plain.odd_things():
            self.raises((errors.BadMap, thing), fields, R, thing, thing)
            self.raises((errors.BadMap, thing), joined_fields, R, thing, thing, thing)
            if thing not in ({}, {"q": []}):
                self.raises((errors.BadLists, thing), joined_fields, R, F, thing, thing)

    def test_bad_people(self):
        for thing in plain.no_lists() + [[], ()]:
            self.raises((errors.BadPeople, 0), fields, R, F, thing)
            self.raises((errors.BadPeople, 0), joined_fields, R, F, {}, thing)
        for thing in plain.odd_things() + ["r", "p", "a"]:
            self.raises((errors.BadPeople, 1), fields, R, F, ["p", thing, "q"])
            self.raises((errors.BadPeople, 1), joined_fields, R, F, {"p": ["a"]}, ("p", thing, thing))
        self.raises((errors.BadPeople, 0), fields, R, {**F, "a": None}, [None])
        self.raises((errors.BadPeople, 2), fields, R, F, ["q", "p", "q"])


class TestLimits(plain.Checks):
    def test_sixty_rooms_seven_people(self):
        rooms = [f"r{k:02d}" for k in range(60)]
        for doors in [list(zip(rooms, rooms[1:])), [(rooms[(k - 1) // 2], rooms[k]) for k in range(1, 60)]]:
            house = House(rooms, doors)
            faces = {room: f"p{k % 7}" for k, room in enumerate(rooms)}
            people = [f"p{k}" for k in range(7)]
            self.assertEqual(joined_fields(house, faces, {}, people), [rooms])
            self.assertEqual(fields(house, faces, people), [rooms])
            told = joined_fields(house, faces, {"p3": [rooms[3]]}, people[:4])
            self.assertEqual(told, [field for field in fields(house, faces, people[:4]) if rooms[3] in field])


if __name__ == "__main__":
    unittest.main()
