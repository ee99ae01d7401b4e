"""Points [100] and [101], and what [102] says of them."""

import itertools
import random
import unittest

import plain
from test_looks import plain_fewest, plain_left
from lastfaces import errors
from lastfaces.houses import House
from lastfaces.inns import Inn
from lastfaces.lookers import beat_looker, run_looker
from lastfaces.looks import best_look, fewest_looks, maps_left
from lastfaces.pieces import Piece
from lastfaces.therule import why_not
from lastfaces.towers import Tower

ROW = House(list("abcde"), [("a", "b"), ("b", "c"), ("c", "d"), ("d", "e")])
ENDS = {"y": "e", "x": "a"}
FULL = {"d": "y", "e": "y", "a": "x", "b": "x", "c": "x"}
OTHER = dict(zip("abcde", "xyyyy"))
NO_FUNCTIONS = [thing for thing in plain.odd_things() if isinstance(thing, (int, str, list, tuple, dict, House))]
NO_FUNCTIONS += [None, ROW, errors.FaceError(), Tower([ROW], ["a"], []), Inn("a")]
NO_FUNCTIONS += [Piece(ROW, [], {}, dict.fromkeys("abcde"))]


def no_answers():
    return plain.odd_things() + [
        ("look",), ("look", "a", "b"), ("look", "f"), ("look", None), ("look", ["a"]), ("look", 1), ("tell", "a"),
        ("tell",), ("tell", {}), ("tell", {**OTHER, "f": None}), ("tell", {**OTHER, "a": 1}), ("tell", None), "look",
        ("b", "a"),
        ("tell", [("a", "x")]), (["look"], "a"), (None, "a"), {"look": "a"}, ("told", OTHER), ("Look", "a")]


def best_looker(house, placing):
    """A looker that looks where it is best to, until it knows the map."""
    def looker(seen):
        room = best_look(house, placing, seen)
        return ("tell", maps_left(house, placing, seen)[0]) if room is None else ["look", room]
    return looker


class TestRun(plain.Checks):
    def test_best_lookers(self):
        chance = random.Random(1)
        for rooms, doors in plain.small_houses(4) + plain.five_room_houses():
            for many in range(1, min(3, len(rooms)) + 1):
                placing = dict(zip(["y", "z", "x"], chance.sample(rooms, many)))
                for faces in plain_left(rooms, doors, placing, {}):
                    house = House(rooms, doors)
                    told = run_looker(house, placing, plain.other_order(faces), best_looker(house, placing))
                    self.assertEqual([type(told), type(told[0])], [tuple, list])
                    self.assertEqual(told[1], faces)
                    self.assertLessEqual(len(told[0]), fewest_looks(house, placing, {}))
                    self.ascends(told)

    def test_asked(self):
        asked = []
        answers = [("look", "d"), ["look", "b"], ("look", "d"), ("tell", {**dict.fromkeys("edcba"), "b": "w"})]

        def looker(seen):
            asked.append(list(seen.items()))
            seen["a"] = "spoilt"
            return answers[len(asked) - 1]

        told = run_looker(ROW, ENDS, FULL, looker)
        self.assertEqual(told, (["d", "b", "d"], {**dict.fromkeys("abcde"), "b": "w"}))
        self.assertEqual(list(told[1]), list("abcde"))
        self.assertEqual(asked, [[], [("d", "y")], [("b", "x"), ("d", "y")], [("b", "x"), ("d", "y")]])
        self.assertIsNot(told[1], answers[3][1])

    def test_no_looks(self):
        self.assertEqual(run_looker(ROW, ENDS, FULL, lambda seen: ["tell", OTHER]), ([], OTHER))

    def test_bad_answers(self):
        for thing in no_answers():
            self.raises((errors.BadAnswer, thing), run_looker, ROW, ENDS, FULL, lambda seen: thing)
            answers = [("look", "a"), ("look", "e"), thing, None]
            self.raises((errors.BadAnswer, thing), run_looker, ROW, ENDS, FULL, lambda seen: answers.pop(0))
            self.assertEqual(answers, [None])

    def test_errors_in_order(self):
        for thing in plain.odd_things():
            self.raises((errors.BadPlacing, thing), run_looker, ROW, thing, thing, None)
            self.raises((errors.BadMap, thing), run_looker, ROW, ENDS, thing, None)
        two = {"x": "a", "y": "a"}
        self.raises((errors.BadPlacing, two), run_looker, ROW, two, FULL, None)
        for faces in [{**FULL, "b": "z"}, {**FULL, "b": None}, {**FULL, "a": "y"}]:
            with self.assertRaises(errors.NoWalks) as caught:
                run_looker(ROW, ENDS, faces, None)
            self.assertEqual(caught.exception.why, why_not(ROW, ENDS, faces))
        self.raises((errors.NotFull, "c"), run_looker, ROW, ENDS, {**FULL, "c": None, "d": None}, None)
        for thing in NO_FUNCTIONS:
            self.raises((errors.BadLooker, thing), run_looker, ROW, ENDS, FULL, thing)

    def test_raising(self):
        def looker(seen):
            raise KeyError("mine")

        with self.assertRaises(KeyError):
            run_looker(ROW, ENDS, FULL, looker)
        with self.assertRaises(KeyError):
            beat_looker(ROW, ENDS, {}, looker, 1)


def plain_beaten(house, placing, seen, answers, many):
    """How a looker fails that answers so, one answer behind another, and how many of them are asked."""
    rooms, doors = house
    faces = dict(seen)
    for index, answer in enumerate(answers):
        maps = plain_left(rooms, doors, placing, faces)
        if answer[0] == "tell":
            return (faces, "wrong", next(told for told in maps if told != answer[1])), index + 1
        if answer[0] != "look":
            return (faces, "odd", maps[0]), index + 1
        if index == many:
            return (faces, "much", maps[0]), index + 1
        people = sorted({told[answer[1]] for told in maps})
        lots = [[told for told in maps if told[answer[1]] == person] for person in people]
        wanted = [plain_fewest(sorted(rooms), lot) for lot in lots]
        faces[answer[1]] = people[wanted.index(max(wanted))]
    return None


class TestBeat(plain.Checks):
    def judge(self, house, placing, seen, answers, many):
        asked = []

        def looker(faces):
            self.ascends(faces)
            asked.append(dict(faces))
            faces.clear()
            return answers[len(asked) - 1]

        wanted, count = plain_beaten(house, placing, seen, answers, many)
        told = beat_looker(House(*house), placing, seen, looker, many)
        self.assertEqual(told, wanted)
        self.assertIs(type(told), tuple)
        self.ascends(told)
        self.assertEqual(len(asked), count)
        self.assertEqual(asked[0], seen)
        self.assertEqual(asked[-1], wanted[0])
        return told[1]

    def test_all_ways(self):
        """All lookers' ways in small houses: whatever it looks at or tells, each looker fails."""
        chance = random.Random(2)
        kinds = {"odd": 0, "much": 0, "wrong": 0}
        for rooms, doors in plain.small_houses(4)[5:] + plain.five_room_houses():
            for people in (["y", "x"], ["z", "x", "y"]):
                if len(people) > len(rooms):
                    continue
                for placing in chance.sample(plain.placings(rooms, people), 4):
                    maps = plain_left(rooms, doors, placing, {})
                    if len(maps) < 2:
                        continue
                    seen = chance.choice([{}, {}, dict([chance.choice(list(maps[-1].items()))])])
                    left = plain_left(rooms, doors, placing, seen)
                    for many in range(plain_fewest(sorted(rooms), left)):
                        ways = list(itertools.product(rooms, repeat=many + 1))
                        for looks in chance.sample(ways, min(len(ways), 16)):
                            answers = [("look", room) for room in looks]
                            last = chance.choice([("tell", chance.choice(maps)), ("odd",), answers[-1]])
                            if last[0] != "look":
                                answers[chance.randrange(many + 1):] = [last]
                            kinds[self.judge((rooms, doors), placing, seen, answers, many)] += 1
        self.assertTrue(all(count > 100 for count in kinds.values()), kinds)

    def test_wrong_tells(self):
        house = (list("abcde"), ROW.doors())
        for told in maps_left(ROW, ENDS, {}) + [dict.fromkeys("abcde"), dict.fromkeys("abcde", "q")]:
            self.assertEqual(self.judge(house, ENDS, {}, [("tell", told)], 1), "wrong")
            self.judge(house, ENDS, {"b": "x"}, [("tell", told)], 0)
            self.judge(house, ENDS, {}, [("look", "c"), ("tell", told)], 1)
        told = beat_looker(ROW, ENDS, {}, lambda seen: ["tell", plain.other_order(maps_left(ROW, ENDS, {})[0])], 0)
        self.assertEqual(told, ({}, "wrong", maps_left(ROW, ENDS, {})[1]))

    def test_odd(self):
        for thing in no_answers():
            told = beat_looker(ROW, ENDS, {}, lambda seen: thing, 1)
            self.assertEqual(told, ({}, "odd", maps_left(ROW, ENDS, {})[0]))
            answers = [["look", "c"], thing]
            told = beat_looker(ROW, ENDS, {}, lambda seen: answers.pop(0), 1)
            self.assertEqual(told[:2], ({"c": "x"}, "odd"))
            self.assertEqual(told[2], maps_left(ROW, ENDS, {"c": "x"})[0])

    def test_looks_at_what_was_seen(self):
        told = beat_looker(ROW, ENDS, {"b": "x"}, lambda seen: ("look", "b"), 1)
        self.assertEqual(told, ({"b": "x"}, "much", maps_left(ROW, ENDS, {"b": "x"})[0]))
        told = beat_looker(ROW, ENDS, {}, lambda seen: ("look", "a"), 1)
        self.assertEqual(told[:2], ({"a": "x"}, "much"))

    def test_least_person(self):
        # In the star with y and x beside it, each look leaves as much behind either face.
        star = House(["m", "d", "a", "c", "b"], [("m", room) for room in "abcd"])
        for placing in ({"y": "a", "x": "b"}, {"x": "a", "y": "b"}):
            told = beat_looker(star, placing, {}, lambda seen: ("look", "c") if not seen else None, 1)
            self.assertEqual(told[:2], ({"c": "x"}, "odd"))

    def test_errors_in_order(self):
        for thing in plain.odd_things():
            self.raises((errors.BadPlacing, thing), beat_looker, ROW, thing, None, None, None)
            if thing != {}:
                self.raises((errors.BadSeen, thing), beat_looker, ROW, ENDS, thing, None, None)
        self.raises((errors.NoneLeft,), beat_looker, ROW, ENDS, {"b": "y", "c": "x"}, None, None)
        for thing in NO_FUNCTIONS:
            self.raises((errors.BadLooker, thing), beat_looker, ROW, ENDS, {}, thing, None)
        for thing in plain.odd_things() + [-5]:
            if type(thing) is not int or thing < 0:
                self.raises((errors.BadNumber, thing), beat_looker, ROW, ENDS, {}, len, thing)
        for many in (2, 3, 10 ** 60):
            self.raises((errors.IsEnough,), beat_looker, ROW, ENDS, {}, len, many)
        self.raises((errors.IsEnough,), beat_looker, ROW, ENDS, {"b": "y"}, len, 0)

    def test_seven_rooms(self):
        chance = random.Random(3)
        for many in (6, 8):
            rooms, doors = plain.drawn_house(7, many, chance)
            house, placing = House(rooms, doors), dict(zip("xyz", chance.sample(rooms, 3)))
            if maps_left(house, placing, {}):
                fewest = fewest_looks(house, placing, {})
                for count in range(fewest):
                    kind = beat_looker(house, placing, {}, best_looker(house, placing), count)[1]
                    self.assertEqual(kind, "much")
                if fewest:
                    answers = [("look", room) for room in chance.sample(rooms, fewest)]
                    self.judge((rooms, doors), placing, {}, answers, fewest - 1)


if __name__ == "__main__":
    unittest.main()
