"""Points [94] to [97]."""

import itertools
import random
import unittest

import plain
from lastfaces import errors
from lastfaces.houses import House
from lastfaces.keepers import beat_asker, fewest_house, told_house
from lastfaces.partedhouses import is_parting_claim, lets, parting_claim

H = House(["a", "b", "c", "d"], [("a", "b"), ("b", "c"), ("c", "d"), ("d", "a")])
P = {"x": "c", "y": "b"}
L = {"a": "x", "b": "y", "c": "x", "d": None}
BARE = dict.fromkeys("abcd")
ROOMS = ["d", "b", "a", "c"]
NO_FUNCTIONS = [thing for thing in plain.odd_things() if isinstance(thing, (int, str, list, tuple, dict, House))]
NO_FUNCTIONS += [None, H, errors.FaceError(), errors.NoTruth(1)]


def no_claims():
    return plain.odd_things() + [(P,), (P, L, None), (L, P), (P, {**L, "e": None}), (P, None), (None, L),
                                 ({"x": "e"}, L), ({"x": "a", "y": "a"}, L), (P, {**L, "a": 1}), {"a": "b"}, "ab"]


def houses_of(rooms):
    """All houses of some rooms, as lists of doors."""
    pairs = list(itertools.combinations(sorted(rooms), 2))
    return [list(some) for many in range(len(pairs) + 1) for some in itertools.combinations(pairs, many)]


def claims_of(rooms, people):
    """All claims with some of these people, and faces of these."""
    for many in range(min(len(people), len(rooms)) + 1):
        for placing in plain.placings(rooms, people[:many]):
            for faces in plain.maps(rooms, [None, *people[:many]]):
                yield placing, faces


class TestLets(plain.Checks):
    def test_all_small(self):
        for rooms, doors in plain.small_houses(3):
            claims = list(claims_of(rooms, ["x", "y"]))
            wanted = [plain.plain_goes(doors, *claim) for claim in claims]
            self.assertEqual(lets(House(rooms, doors), claims), wanted)
            self.assertEqual(lets(House(rooms, doors), [list(claim) for claim in claims]), wanted)
            self.assertEqual(lets(House(rooms, doors), tuple(claims)), wanted)
        self.assertEqual(lets(H, []), [])
        self.assertIs(type(lets(H, ())), list)
        self.assertEqual(lets(H, [(P, L), (P, {**L, "a": "z"}), (P, L)]), [True, False, True])

    def test_wrong(self):
        for thing in plain.no_lists():
            self.raises((errors.BadClaims, 0), lets, H, thing)
        for thing in no_claims():
            self.raises((errors.BadClaims, 0), lets, H, [thing, None])
            self.raises((errors.BadClaims, 2), lets, H, [(P, L), (P, L), thing])
            if thing not in ({}, {"a": "b"}):
                self.raises((errors.BadClaims, 1), lets, H, [(P, L), (thing, L)])
            self.raises((errors.BadClaims, 1), lets, H, [(P, L), (P, thing)])


class TestParted(plain.Checks):
    def test_all_small(self):
        """Just one: the houses are equal, or there is a claim that just one of them lets."""
        for rooms in (ROOMS[:1], ROOMS[:2], ROOMS[:3]):
            for one, other in itertools.product(houses_of(rooms), repeat=2):
                told = parting_claim(House(rooms, one), House(rooms, other))
                self.assertEqual(told is None, one == other)
                if told is None:
                    claims = list(claims_of(rooms, ["x", "y"]))
                    self.assertEqual(lets(House(rooms, one), claims), lets(House(rooms, other), claims))
                else:
                    self.judge(rooms, one, other, told)

    def judge(self, rooms, one, other, told):
        self.assertIs(type(told), tuple)
        self.ascends(told)
        self.assertNotEqual(plain.plain_goes(one, *told), plain.plain_goes(other, *told))
        self.assertIs(is_parting_claim(House(rooms, one), House(rooms, other), told), True)
        self.assertEqual(len(told[0]), 1)
        self.assertEqual(sum(face is not None for face in told[1].values()), 2)

    def test_four_rooms(self):
        chance = random.Random(1)
        houses = houses_of(ROOMS)
        for _ in range(80):
            one, other = chance.sample(houses, 2)
            self.judge(ROOMS, one, other, parting_claim(House(ROOMS, one), House(ROOMS, other)))

    def test_is_parting_claim(self):
        chance = random.Random(2)
        houses = houses_of(ROOMS)
        claims = list(claims_of(ROOMS, ["x", "y"]))
        for _ in range(60):
            one, other = chance.sample(houses, 2)
            for claim in chance.sample(claims, 20):
                wanted = plain.plain_goes(one, *claim) != plain.plain_goes(other, *claim)
                for told in (claim, list(claim)):
                    self.assertIs(is_parting_claim(House(ROOMS, one), House(ROOMS, other), told), wanted)
        for thing in no_claims():
            self.assertIs(is_parting_claim(H, House(ROOMS, []), thing), False)

    def test_unlike_rooms(self):
        for call in [parting_claim, lambda one, other: is_parting_claim(one, other, None)]:
            self.raises((errors.UnlikeRooms, "d"), call, H, House(["a", "b", "c"], []))
            self.raises((errors.UnlikeRooms, "c"), call, House(["a", "b", "d"], []), H)
            self.raises((errors.UnlikeRooms, "c"), call, House(["a", "b", "d"], []), House(["a", "b", "c"], []))
            self.raises((errors.UnlikeRooms, "aa"), call, House(["aa", "a", "b", "c", "d"], []), H)
            self.raises((errors.UnlikeRooms, "b"), call, H, House(["a", "c", "z"], []))


class TestToldHouse(plain.Checks):
    def test_of_what_houses_let(self):
        for doors in houses_of(ROOMS):
            house = House(ROOMS, doors)
            self.assertEqual(told_house(ROOMS, lambda claim: lets(house, [claim])[0]), house)
            self.assertEqual(told_house(tuple(ROOMS[::-1]), lambda claim: lets(house, [claim])[0]), house)

    def test_asked(self):
        asked = []

        def keeper(claim):
            asked.append(claim)
            self.assertEqual([type(claim), *map(type, claim)], [tuple, dict, dict])
            self.assertEqual(list(claim[1]), ["a", "b", "c", "d"])
            return len(asked) % 2 == 0

        self.assertEqual(told_house(ROOMS, keeper), House(ROOMS, [("a", "c"), ("b", "c"), ("c", "d")]))
        pairs = list(itertools.combinations("abcd", 2))
        self.assertEqual(asked, [({"x": one}, {**BARE, one: "x", other: "x"}) for one, other in pairs])
        told_house(["a"], lambda claim: self.fail())

    def test_changed_by_the_keeper(self):
        def keeper(claim):
            claim[0].clear()
            claim[1].clear()
            return True

        self.assertEqual(told_house(["b", "a", "c"], keeper).doors(), [("a", "b"), ("a", "c"), ("b", "c")])

    def test_errors_in_order(self):
        for thing in plain.no_lists() + [[], ()]:
            self.raises((errors.BadRooms, 0), told_house, thing, None)
        self.raises((errors.BadRooms, 2), told_house, ["a", "b", "a"], None)
        for thing in NO_FUNCTIONS:
            self.raises((errors.BadKeeper, thing), told_house, ROOMS, thing)
        for thing in plain.odd_things() + [[True], "True"]:
            if not isinstance(thing, bool):
                answers = [True, False, thing, None]
                self.raises((errors.NoTruth, thing), told_house, ROOMS, lambda claim: answers.pop(0))
                self.assertEqual(answers, [None])

    def test_raising(self):
        def keeper(claim):
            raise KeyError("mine")

        with self.assertRaises(KeyError):
            told_house(ROOMS, keeper)


def plain_answers(rooms, asked):
    """The truths by which most houses are left, for claims asked in order, and the houses left."""
    left, truths = houses_of(rooms), []
    for claim in asked:
        letting = [plain.plain_goes(doors, *claim) for doors in left]
        truths.append(letting.count(True) * 2 >= len(left))
        left = [doors for doors, answer in zip(left, letting) if answer is truths[-1]]
    return truths, left


class TestBeatAsker(plain.Checks):
    def judge(self, rooms, claims):
        """Asserts how an asker is answered that asks such claims, whatever it is answered."""
        handed = []

        def asker(answers):
            handed.append([(claim, truth) for claim, truth in answers])
            self.assertIs(type(answers), list)
            self.assertTrue(all(type(answer) is tuple and type(answer[0]) is tuple for answer in answers))
            self.ascends(answers)
            answers.append("spoilt")
            for claim, _ in answers[:-1]:
                claim[0].clear()
                claim[1].clear()
            return claims[len(handed) - 1]

        before = [(dict(placing), dict(faces)) for placing, faces in claims]
        told = beat_asker(rooms, asker, len(claims))
        self.assertEqual([tuple(claim) for claim in claims], before)
        truths, left = plain_answers(rooms, before)
        self.assertEqual([type(told), type(told[0])], [tuple, list])
        self.assertEqual(told[0], list(zip(before, truths)))
        self.ascends(told[0])
        self.assertEqual(len(handed), len(claims))
        for index, answers in enumerate(handed):
            self.assertEqual(len(answers), index)
        self.assertNotEqual(told[1], told[2])
        for house in told[1:]:
            self.assertIn(house.doors(), left)
            self.assertEqual(house.rooms(), sorted(rooms))
            self.assertEqual(lets(house, before), truths)
        return told

    def test_drawn(self):
        chance = random.Random(3)
        for rooms in (ROOMS[:2], ROOMS[:3], ROOMS):
            claims = list(claims_of(rooms, ["z", "y", "x"]))
            pairs = len(rooms) * (len(rooms) - 1) // 2
            for _ in range(12):
                self.judge(rooms, [chance.choice(claims) for _ in range(chance.randrange(pairs))])
            told = beat_asker(rooms, lambda answers: claims[len(answers)], pairs - 1)
            again = beat_asker(tuple(rooms[::-1]), lambda answers: list(claims[len(answers)]), pairs - 1)
            self.assertEqual(told, again)

    def test_all_pairs_but_one(self):
        pairs = list(itertools.combinations(sorted(ROOMS), 2))[:5]
        claims = [({"x": one}, {**BARE, one: "x", other: "x"}) for one, other in pairs]
        answers, one, other = self.judge(ROOMS, claims)
        self.assertEqual([truth for _, truth in answers], [True] * 5)
        self.assertEqual(sorted([one.doors(), other.doors()], key=len), [pairs, pairs + [("c", "d")]])
        self.judge(ROOMS, [])

    def test_lists_for_tuples(self):
        claim = [{"x": "a"}, {**BARE, "b": "x", "a": "x"}]
        (told, truth), = beat_asker(ROOMS, lambda answers: claim, 1)[0]
        self.assertEqual((type(told), told, truth), (tuple, tuple(claim), True))
        self.assertIsNot(told[0], claim[0])

    def test_as_many(self):
        # As many houses let it as do not: the answer is True.
        answers, _, _ = beat_asker(["a", "b", "c"], lambda told: ({"x": "a"}, {"a": "x", "b": "x", "c": None}), 1)
        self.assertIs(answers[0][1], True)

    def test_errors_in_order(self):
        for thing in plain.no_lists() + [[], ()]:
            self.raises((errors.BadRooms, 0), beat_asker, thing, None, None)
        self.raises((errors.BadRooms, 1), beat_asker, ["a", "A"], None, None)
        for thing in NO_FUNCTIONS:
            self.raises((errors.BadAsker, thing), beat_asker, ROOMS, thing, None)
        for thing in plain.odd_things() + [-10 ** 70]:
            if type(thing) is not int or thing < 0:
                self.raises((errors.BadNumber, thing), beat_asker, ROOMS, len, thing)
        for many in (6, 7, 10 ** 80):
            self.raises((errors.CanBeTold,), beat_asker, ROOMS, lambda answers: self.fail(), many)
        self.raises((errors.CanBeTold,), beat_asker, ["a"], len, 0)
        self.raises((errors.CanBeTold,), beat_asker, ["a", "b"], len, 1)
        for thing in no_claims():
            claims = [(P, L), thing, None]
            self.raises((errors.BadClaim, thing), beat_asker, ROOMS, lambda answers: claims.pop(0), 5)
            self.assertEqual(claims, [None])

    def test_raising(self):
        def asker(answers):
            raise KeyError("mine")

        with self.assertRaises(KeyError):
            beat_asker(ROOMS, asker, 3)

    def test_five_rooms(self):
        rooms = ROOMS + ["e"]
        pairs = list(itertools.combinations(sorted(rooms), 2))
        faces = dict.fromkeys(rooms)
        claims = [({"x": one}, {**faces, one: "x", other: "x"}) for one, other in pairs[:9]]
        answers, one, other = beat_asker(rooms, lambda told: claims[len(told)], 9)
        self.assertEqual(lets(one, claims), lets(other, claims))


class TestFewestHouse(plain.Checks):
    def plain_fewest(self, rooms, claims):
        for doors in houses_of(rooms):
            if all(plain.plain_goes(doors, *claim) for claim in claims):
                return House(rooms, doors)
        return None

    def test_drawn(self):
        chance = random.Random(4)
        found = set()
        for rooms in (ROOMS[:1], ROOMS[:2], ROOMS[:3], ROOMS):
            claims = [claim for claim in claims_of(rooms, ["x", "y", "z"])
                      if all(claim[1][room] == person for person, room in claim[0].items())]
            for _ in range(60):
                some = [chance.choice(claims) for _ in range(chance.randrange(5))]
                if chance.random() < 0.1:
                    some.append(({}, {**dict.fromkeys(rooms), rooms[0]: "x"}))
                told = fewest_house(rooms, some)
                self.assertEqual(told, self.plain_fewest(rooms, some))
                found.add(None if told is None else len(told.doors()))
        self.assertLessEqual({None, 0, 1, 2, 3}, found)

    def test_one_claim(self):
        """It has as many doors as rooms show somebody, less the people."""
        for claim in itertools.islice(claims_of(ROOMS, ["x", "y"]), 0, None, 5):
            told = fewest_house(tuple(ROOMS), [list(claim)])
            if told is not None:
                self.assertEqual(len(told.doors()), sum(face is not None for face in claim[1].values()) - len(claim[0]))

    def test_errors_in_order(self):
        for thing in plain.no_lists() + [[], ()]:
            self.raises((errors.BadRooms, 0), fewest_house, thing, None)
        for thing in plain.no_lists():
            self.raises((errors.BadClaims, 0), fewest_house, ROOMS, thing)
        for thing in no_claims():
            self.raises((errors.BadClaims, 1), fewest_house, ROOMS, [(P, L), thing, None])

    def test_five_rooms(self):
        rooms = ["e", *ROOMS]
        chance = random.Random(5)
        for _ in range(8):
            claims = []
            for _ in range(3):
                row = [("a", "b"), ("b", "c"), ("c", "d"), ("d", "e")]
                doors = chance.choice([list(itertools.combinations(rooms, 2)), row])
                placing = dict(zip("xyz", chance.sample(rooms, chance.randint(1, 3))))
                claims.append((placing, plain.grown_map(rooms, doors, placing, chance)))
            told = fewest_house(rooms, claims)
            self.assertTrue(all(lets(told, claims)))
            for some in itertools.combinations(itertools.combinations(sorted(rooms), 2), max(0, len(told.doors()) - 1)):
                self.assertFalse(all(plain.plain_goes(list(some), *claim) for claim in claims))
        self.assertEqual(fewest_house(list("abcdef"), []).doors(), [])
        told = fewest_house(list("abcdef"), [({"x": "f"}, dict.fromkeys("abcdef", "x"))])
        self.assertEqual(told.doors(), [("a", other) for other in "bcdef"])


if __name__ == "__main__":
    unittest.main()
