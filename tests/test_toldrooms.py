"""Points [29] and [30], and what [32] says of them."""

import itertools
import random
import unittest
from fractions import Fraction

import plain
from lastfaces import errors
from lastfaces.houses import House
from lastfaces.lastamong import last_clash
from lastfaces.therule import why_not
from lastfaces.toldrooms import best_told, fewest_places, left_mean, stand_chances

R = House(["a", "b", "c", "d"], [("a", "b"), ("b", "c"), ("c", "d")])
F = {"a": "p", "b": "q", "c": "p", "d": "q"}
ALL = [{"p": "a", "q": "b"}, {"p": "c", "q": "b"}, {"p": "c", "q": "d"}]


def cases():
    for rooms, doors in plain.small_houses():
        told = plain.maps(rooms, [None, "y", "x", "z"])
        for faces in itertools.islice(told, 0, None, 7 if len(rooms) > 3 else 1):
            yield rooms, doors, faces
    yield from plain.larger_cases(200, 41)


def pair(part):
    return part.numerator, part.denominator


class Judge(plain.Checks):
    def judge(self, house, faces, lists, kept, people):
        means = []
        for person in people:
            rooms = [placing[person] for placing in kept]
            wanted = {room: pair(Fraction(rooms.count(room), len(kept))) for room in rooms}
            told = stand_chances(house, faces, lists, person)
            self.assertEqual(told, wanted)
            self.ascends(told)
            self.assertTrue(all(type(part) is tuple for part in told.values()))
            # In the mean over what is drawn: how many have the person in the same room.
            mean = sum(Fraction(rooms.count(room), len(kept)) for room in rooms)
            self.assertEqual(left_mean(house, faces, lists, person), pair(mean))
            means.append(mean)
        best = people[means.index(min(means))] if people else None
        self.assertEqual(best_told(house, faces, lists), best)

    def wanted(self, placing, going):
        for many in range(len(placing) + 1):
            for some in itertools.combinations(sorted(placing), many):
                if len(plain.keeping(going, {person: [placing[person]] for person in some})) == 1:
                    return list(some)
        return None


class TestChances(Judge):
    def test_figures(self):
        self.assertEqual(stand_chances(R, F, {}, "p"), {"a": (1, 3), "c": (2, 3)})
        self.assertEqual(left_mean(R, F, {}, "p"), (5, 3))
        self.assertEqual(best_told(R, F, {}), "p")
        self.assertEqual(fewest_places(R, ALL[0], F), ["p"])
        self.assertEqual(fewest_places(R, ALL[1], F), ["p", "q"])

    def test_all(self):
        chance = random.Random(9)
        for rooms, doors, faces in cases():
            house = House(rooms, doors)
            going = plain.going_placings(rooms, doors, faces)
            for lists in [{}, plain.drawn_lists(rooms, faces, chance)]:
                kept = plain.keeping(going, lists)
                people = sorted({face for face in faces.values() if face})
                if kept:
                    self.judge(house, faces, lists, kept, people)
                else:
                    self.judge_none(house, faces, lists, people)

    def judge_none(self, house, faces, lists, people):
        clash = last_clash(house, faces, lists)
        calls = [lambda: best_told(house, faces, lists)]
        for person in people:
            calls.append(lambda person=person: stand_chances(house, faces, lists, person))
            calls.append(lambda person=person: left_mean(house, faces, lists, person))
        for call in calls:
            with self.assertRaises(errors.NoneGoes) as caught:
                call()
            self.assertEqual(caught.exception.people, clash)
            self.assertIs(type(caught.exception.people), list)

    def test_nobody(self):
        self.assertIsNone(best_told(R, dict.fromkeys("abcd"), {}))
        self.assertEqual(fewest_places(R, {}, dict.fromkeys("abcd")), [])

    def test_first_of_the_best(self):
        pieces = House(["a", "b", "c", "d"], [("a", "b"), ("c", "d")])
        faces = {"a": "q", "b": "q", "c": "p", "d": "p"}
        self.assertEqual(best_told(pieces, faces, {}), "p")
        self.assertEqual(best_told(pieces, faces, {"p": ["d"]}), "q")
        self.assertEqual(left_mean(pieces, faces, {"p": ["d"]}, "p"), (2, 1))
        self.assertEqual(left_mean(pieces, faces, {"p": ["d"]}, "q"), (1, 1))
        self.assertEqual(stand_chances(pieces, faces, {"p": ["d"]}, "p"), {"d": (1, 1)})


class TestFewestPlaces(Judge):
    def test_all(self):
        for rooms, doors, faces in cases():
            going = plain.going_placings(rooms, doors, faces)
            for placing in going:
                told = fewest_places(House(rooms, doors), plain.other_order(placing), faces)
                self.assertEqual(told, self.wanted(placing, going))

    def test_several_pieces(self):
        house = House(["a", "b", "c", "d", "e", "f"], [("a", "b"), ("b", "c"), ("c", "d"), ("e", "f")])
        faces = {**F, "e": "o", "f": "o"}
        for placing, wanted in [(ALL[0], ["o", "p"]), (ALL[1], ["o", "p", "q"]), (ALL[2], ["o", "q"])]:
            self.assertEqual(fewest_places(house, {**placing, "o": "f"}, faces), wanted)


class TestWrong(plain.Checks):
    def test_errors_in_order(self):
        for thing in plain.odd_things():
            for call in [stand_chances, left_mean]:
                self.raises((errors.BadMap, thing), call, R, thing, thing, thing)
                if thing not in ({}, {"q": []}):
                    self.raises((errors.BadLists, thing), call, R, F, thing, thing)
            self.raises((errors.BadMap, thing), best_told, R, thing, thing)
            if thing not in ({}, {"q": []}):
                self.raises((errors.BadLists, thing), best_told, R, F, thing)
                self.raises((errors.BadPlacing, thing), fewest_places, R, thing, thing)
            self.raises((errors.BadMap, thing), fewest_places, R, ALL[0], thing)

    def test_bad_person(self):
        # Ahead of NoneGoes.
        for lists in [{}, {"p": []}]:
            for call in [stand_chances, left_mean]:
                for thing in plain.no_names():
                    self.raises((errors.BadPerson, thing), call, R, F, lists, thing)
                self.raises((errors.NotShown, "r"), call, R, F, lists, "r")

    def test_no_walks(self):
        for placing in [{}, {"p": "a"}, {"p": "a", "q": "d"}, {"p": "b", "q": "a"}]:
            with self.assertRaises(errors.NoWalks) as caught:
                fewest_places(R, placing, F)
            self.assertEqual(caught.exception.why, why_not(R, placing, F))


class TestLimits(Judge):
    def test_twenty_rooms_five_people(self):
        rooms = [f"r{k:02d}" for k in range(20)]
        house = House(rooms, [(rooms[(k - 1) // 2], rooms[k]) for k in range(1, 20)])
        faces = {room: "pqrst"[k % 5] for k, room in enumerate(rooms)}
        going = plain.going_placings(rooms, house.doors(), faces)
        lists = {"t": plain.rooms_showing(rooms, faces, "t")[1:]}
        kept = plain.keeping(going, lists)
        self.judge(house, faces, lists, kept, list("pqrst"))
        for placing in going[::200]:
            self.assertEqual(fewest_places(house, placing, faces), self.wanted(placing, going))


if __name__ == "__main__":
    unittest.main()
