"""Points [42] to [45] and [47], and what [48] says of them."""

import itertools
import random
import unittest

import plain
from lastfaces import errors
from lastfaces.fillings import could_show, count_fillings, filling, filling_paper, fullest, last_rooms, most_seen
from lastfaces.fillings import narrowed, sure_faces
from lastfaces.guesses import is_guesses, is_within
from lastfaces.houses import House
from lastfaces.therule import goes_with

H = House(["a", "b", "c", "d"], [("a", "b"), ("b", "c"), ("c", "d"), ("d", "a")])
P = {"x": "a", "y": "c"}
G = {"a": ["x"], "b": ["x", "y", None], "c": ["y"], "d": ["x", None]}


def in_order(faces):
    return sorted(face for face in faces if face) + [None] * (None in faces)


def plain_lots(doors, placing, guesses):
    """The lots that take in, one room behind another, what has one of their people among its guesses."""
    taken = set(placing.values())
    while True:
        lots = plain.plain_lots(doors, placing, taken)
        more = {room for people, some in lots for room in guesses if room not in taken
                and set(plain.near(doors, room)) & set(some) and set(people) & set(guesses[room])}
        if not more:
            return lots
        taken.add(min(more))


def drawn_guesses(rooms, placing, faces, chance):
    """Guesses of which most show who could be there; strangers among them."""
    told = {}
    for room in chance.sample(rooms, len(rooms)):
        some = [face for face in faces if chance.random() < 0.55]
        own = [person for person in placing if placing[person] == room and chance.random() < 0.95]
        told[room] = chance.sample(some, len(some)) or [chance.choice(faces)]
        told[room] += [person for person in own if person not in told[room]]
    return told


class TestExample(plain.Checks):
    def test_figures(self):
        all_maps = [dict(zip("abcd", faces)) for faces in itertools.product(*G.values())]
        self.assertEqual(len(all_maps), 6)
        self.assertTrue(all(goes_with(H, P, faces) for faces in all_maps))
        self.assertEqual(count_fillings(H, P, G), 6)
        self.assertEqual(most_seen(H, P, G), ["a", "b", "c", "d"])
        self.assertEqual(narrowed(H, P, G), G)
        other = {**G, "b": [None], "d": ["y"], "c": ["x", None]}
        self.assertEqual(filling_paper(H, {"x": "a"}, other), ("lots", [(["x"], ["a"])], "d"))
        self.assertIsNone(filling(H, {"x": "a"}, other))


class TestFillings(plain.Checks):
    def judge(self, rooms, doors, placing, guesses, goes):
        house = House(rooms, doors)
        chosen = [dict(zip(guesses, faces)) for faces in itertools.product(*guesses.values())]
        fillings = [faces for faces in chosen if goes(faces)]
        shows = {room: in_order({faces[room] for faces in fillings}) for room in sorted(rooms)}
        self.assertEqual(count_fillings(house, placing, guesses), len(fillings))
        for room in rooms:
            self.assertEqual(could_show(house, placing, guesses, room), shows[room])
        self.judge_paper(house, rooms, doors, placing, guesses, fillings)
        if not fillings:
            for call in [filling, narrowed, sure_faces, most_seen, fullest, last_rooms]:
                self.assertIsNone(call(house, placing, guesses))
            return
        self.assertIn(filling(house, placing, guesses), fillings)
        self.assertEqual(narrowed(house, placing, guesses), shows)
        sure = {room: shows[room][0] for room in shows if len(shows[room]) == 1}
        self.assertEqual(sure_faces(house, placing, guesses), sure)
        seen = [room for room in shows if shows[room] != [None]]
        self.assertEqual(most_seen(house, placing, guesses), seen)
        self.assertEqual(sorted(room for _, some in plain_lots(doors, placing, guesses) for room in some), seen)
        full = fullest(house, placing, guesses)
        self.assertIn(full, fillings)
        self.assertEqual([room for room in full if full[room]], seen)
        rooms_by = {person: [room for room in shows if person in shows[room]] for person in sorted(placing)}
        self.assertEqual(last_rooms(house, placing, guesses), rooms_by)
        for told in [narrowed, sure_faces, fullest, filling, last_rooms]:
            self.ascends(told(house, placing, guesses))
        self.judge_narrowed(house, placing, guesses, shows)

    def judge_paper(self, house, rooms, doors, placing, guesses, fillings):
        amiss = [person for person in sorted(placing) if person not in guesses[placing[person]]]
        lots = plain_lots(doors, placing, guesses)
        taken = [room for _, some in lots for room in some]
        outside = [room for room in sorted(rooms) if room not in taken and None not in guesses[room]]
        wanted = ("room", amiss[0]) if amiss else ("lots", lots, outside[0]) if outside else None
        self.assertIs(wanted is None, bool(fillings))
        self.assertEqual(filling_paper(house, placing, guesses), wanted)

    def judge_narrowed(self, house, placing, guesses, shows):
        """Narrowed guesses are narrowed; a face is possible just if there is a filling with it alone."""
        self.assertEqual(narrowed(house, placing, shows), shows)
        self.assertEqual(count_fillings(house, placing, shows), count_fillings(house, placing, guesses))
        for room in guesses:
            for face in guesses[room]:
                told = filling(house, placing, {**guesses, room: [face]})
                self.assertIs(told is not None, face in shows[room])
        for kind in plain.both_kinds(plain.other_order(guesses)):
            again = House(house.rooms()[::-1], house.doors()[::-1])
            self.assertEqual(filling(again, plain.other_order(placing), kind), filling(house, placing, guesses))
            self.assertEqual(fullest(again, plain.other_order(placing), kind), fullest(house, placing, guesses))

    def test_against_walks(self):
        chance = random.Random(1)
        for rooms, doors in plain.small_houses(3):
            for many in range(len(rooms) + 1):
                people = ["y", "x", "z"][:many]
                ends = plain.walked_ends(rooms, doors, people)
                for placing in plain.placings(rooms, people):
                    for _ in range(12 if many < 3 else 4):
                        guesses = drawn_guesses(rooms, placing, [*people, None, "w"], chance)
                        key = plain.map_key(placing)
                        self.judge(rooms, doors, placing, guesses, lambda faces: (key, plain.map_key(faces)) in ends)

    def test_four_rooms(self):
        chance = random.Random(2)
        for rooms, doors in plain.small_houses()[-11:]:
            for many in (0, 1, 2, 2, 3):
                people = ["y", "x", "z"][:many]
                for placing in chance.sample(plain.placings(rooms, people), min(5, 4 ** many)):
                    for _ in range(4):
                        guesses = drawn_guesses(rooms, placing, [*people, None, "w"], chance)
                        self.judge(rooms, doors, placing, guesses, lambda told: plain.plain_goes(doors, placing, told))

    def test_larger_houses(self):
        chance = random.Random(3)
        for rooms, doors, faces in plain.larger_cases(60, 71, (5, 6)):
            people = sorted({face for face in faces.values() if face})
            placing = dict(zip(people, chance.sample(rooms, len(people))))
            guesses = drawn_guesses(rooms, placing, [*people[:3], None], chance)
            self.judge(rooms, doors, placing, guesses, lambda told: plain.plain_goes(doors, placing, told))

    def test_nobody(self):
        blank = {room: ["x", None] for room in "abcd"}
        self.assertEqual(filling(H, {}, blank), dict.fromkeys("abcd"))
        self.assertEqual(count_fillings(H, {}, blank), 1)
        self.assertEqual(most_seen(H, {}, blank), [])
        self.assertEqual(last_rooms(H, {}, blank), {})
        self.assertEqual(sure_faces(H, {}, blank), dict.fromkeys("abcd"))
        self.assertEqual(filling_paper(H, {}, {**blank, "b": ["x"]}), ("lots", [], "b"))
        self.assertEqual(count_fillings(H, {}, {**blank, "b": ["x"]}), 0)

    def test_room_papers(self):
        self.assertEqual(filling_paper(H, P, {**G, "c": [None, "x"], "a": ["y"]}), ("room", "x"))
        self.assertEqual(filling_paper(H, P, {**G, "c": [None, "x"]}), ("room", "y"))
        for call in [filling, narrowed, most_seen, fullest, last_rooms, sure_faces]:
            self.assertIsNone(call(H, P, {**G, "c": [None, "x"]}))
        self.assertEqual(could_show(H, P, {**G, "c": [None, "x"]}, "a"), [])

    def test_no_room(self):
        for thing in plain.odd_things():
            self.raises((errors.NoRoom, thing), could_show, H, P, G, thing)
            self.raises((errors.NoRoom, thing), could_show, H, P, {**G, "c": [None]}, thing)


class TestCounted(plain.Checks):
    def many(self, doors, guesses, person, room, ahead):
        """By the rule of [47]: many of a room, and whether all rooms from it on may show nobody."""
        many, blank = 1, None in guesses[room]
        for further in plain.near(doors, room):
            if further != ahead:
                inner, inner_blank = self.many(doors, guesses, person, further, room)
                many *= (inner if person in guesses[further] else 0) + inner_blank
                blank = blank and inner_blank
        return many, blank

    def test_one_person_without_rings(self):
        chance = random.Random(4)
        houses = [case for case in plain.small_houses() + plain.five_room_houses() if plain.is_forest(*case)]
        for rooms, doors in houses:
            for room in rooms:
                for _ in range(6):
                    guesses = drawn_guesses(rooms, {"x": room}, ["x", None, "w"], chance)
                    chosen = [dict(zip(guesses, faces)) for faces in itertools.product(*guesses.values())]
                    fit = [faces for faces in chosen if plain.plain_goes(doors, {"x": room}, faces)]
                    part = plain.component(doors, rooms, room)
                    many, _ = self.many(doors, guesses, "x", room, None)
                    if "x" not in guesses[room] or any(None not in guesses[far] for far in rooms if far not in part):
                        many = 0
                    self.assertEqual(len(fit), many)
                    self.assertEqual(count_fillings(House(rooms, doors), {"x": room}, guesses), many)

    def test_sixty_rooms(self):
        rooms = [f"r{k:02d}" for k in range(60)]
        free = {room: [None, "w", "x"] for room in rooms}
        row = House(rooms, list(zip(rooms, rooms[1:])))
        self.assertEqual(count_fillings(row, {"x": rooms[20]}, free), 21 * 40)
        star = House(rooms, [(rooms[0], room) for room in rooms[1:]])
        self.assertEqual(count_fillings(star, {"x": rooms[0]}, free), 2 ** 59)
        self.assertEqual(count_fillings(star, {"x": rooms[1]}, free), 1 + 2 ** 58)
        self.assertEqual(count_fillings(star, {"x": rooms[1]}, {**free, rooms[9]: ["x"]}), 2 ** 57)
        halves = House(rooms, list(zip(rooms[:30], rooms[1:30])) + list(zip(rooms[30:], rooms[31:])))
        self.assertEqual(count_fillings(halves, {"x": rooms[0]}, free), 30)
        self.assertEqual(count_fillings(halves, {"x": rooms[0]}, {**free, rooms[40]: ["x", "w"]}), 0)

    def test_five_thousand(self):
        chance = random.Random(5)
        for doors_many, people_many in [(13, 3), (20, 4), (30, 2)]:
            rooms, doors = plain.drawn_house(14, doors_many, chance)
            people = ["y", "x", "z", "u"][:people_many]
            placing = dict(zip(people, chance.sample(rooms, people_many)))
            others = [room for room in rooms if room not in placing.values()]
            guesses = {room: [person] for person, room in placing.items()}
            for index, room in enumerate(others):
                guesses[room] = [None, people[index % people_many], "w"][:2 if index < 8 else 1]
            guesses[others[8]] = [*people, "v", None]
            guesses[others[9]] = [people[0]]
            chosen = [dict(zip(guesses, faces)) for faces in itertools.product(*guesses.values())]
            self.assertLessEqual(len(chosen), 5000)
            fit = [faces for faces in chosen if goes_with(House(rooms, doors), placing, faces)]
            self.assertEqual(count_fillings(House(rooms, doors), placing, guesses), len(fit))

    def test_lots_that_lie_apart(self):
        rooms = [f"r{k:02d}" for k in range(60)]
        doors = [(rooms[k], rooms[k + 1]) for k in range(59) if k % 15 != 14]
        doors += [(rooms[k], rooms[k + 14]) for k in range(0, 60, 15)]
        placing = {f"p{k}": rooms[15 * k] for k in range(4)}
        guesses = {room: [f"p{index // 15}"] for index, room in enumerate(rooms)}
        for part in range(4):
            for k in (7, 8, 9):
                guesses[rooms[15 * part + k]] = [f"p{part}", None]
        # Of each ring all eight ways to show the three rooms far off go, but the one that shows the middle one alone.
        self.assertEqual(count_fillings(House(rooms, doors), placing, guesses), 7 ** 4)


class TestLimits(plain.Checks):
    def test_sixty_rooms(self):
        chance = random.Random(6)
        for doors_many in (59, 90, 200):
            rooms, doors = plain.drawn_house(60, doors_many, chance)
            house = House(rooms, doors)
            people = [f"p{k:02d}" for k in range(20)]
            placing = dict(zip(people, chance.sample(rooms, 20)))
            faces = plain.grown_map(rooms, doors, placing, chance)
            guesses = {room: in_order({faces[room], *chance.sample([*people, None], 5)}) for room in rooms}
            told = narrowed(house, placing, guesses)
            for room in rooms:
                self.assertIn(faces[room], told[room])
            for room in rooms[::9]:
                self.assertEqual(could_show(house, placing, guesses, room), told[room])
            self.assertIs(is_guesses(house, told), True)
            full = fullest(house, placing, guesses)
            self.assertIs(is_within(house, told, full), True)
            self.assertIs(goes_with(house, placing, full), True)
            self.assertEqual(most_seen(house, placing, guesses), [room for room in full if full[room]])
            free = {room: [*people, None] for room in rooms}
            self.assertEqual(narrowed(house, placing, free)[placing["p07"]], ["p07"])
            self.assertIsNone(filling_paper(house, placing, free))
            self.assertEqual(list(last_rooms(house, placing, free)), people)


if __name__ == "__main__":
    unittest.main()
