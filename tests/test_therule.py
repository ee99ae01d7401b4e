"""Points [15] to [18], [22] and the rule's limits of [23] and figures of [24]."""

import copy
import itertools
import unittest

import plain
from lastfaces import errors
from lastfaces.houses import House
from lastfaces.lotsbyrows import can_take, lots_behind, row_fault
from lastfaces.otherhouses import without_door
from lastfaces.therule import goes_with, is_why, last_lots, left_out, round_of, why_not

RING = House(["a", "b", "c", "d"], [("a", "b"), ("b", "c"), ("c", "d"), ("d", "a")])
ROW = without_door(RING, "d", "a")
PLACING = {"x": "c", "y": "b"}
FACES = {"a": "x", "b": "y", "c": "x", "d": None}
ENDS = {"x": "a", "y": "d"}
STUCK = {"a": "x", "b": "y", "c": "x", "d": "y"}
STUCK_LOTS = [(["x"], ["a"]), (["y"], ["d"])]
BY_ROW = [row_fault, can_take, lots_behind]
BY_MAP = [last_lots, left_out, round_of, goes_with, why_not]
CALLS = BY_MAP + [lambda house, placing, faces, call=call: call(house, placing, faces, []) for call in BY_ROW + [is_why]]


def cases(houses, most, strangers=("w",)):
    """All placings and maps of houses, as (rooms, doors, placing, faces), people of the placing and strangers shown."""
    for rooms, doors in houses:
        for many in range(most + 1):
            people = ["y", "x", "z"][:many]
            for placing in plain.placings(rooms, people):
                for faces in plain.maps(rooms, [None, *people, *strangers]):
                    yield rooms, doors, placing, faces


def some_cases():
    """Placings and maps of small houses, fewer than all."""
    yield from cases(plain.small_houses(3), 2)
    yield from itertools.islice(cases(plain.small_houses()[-10:], 3, ()), 0, None, 29)
    yield from itertools.islice(cases(plain.five_room_houses(), 3, ()), 0, None, 599)


class TestExample(plain.Checks):
    def test_ring(self):
        self.assertEqual(last_lots(RING, PLACING, FACES), [(["x", "y"], ["a", "b", "c"])])
        self.assertEqual(can_take(RING, PLACING, FACES, []), ["a"])
        self.assertEqual(round_of(RING, PLACING, FACES), {"a": 1, "b": 0, "c": 0})
        self.assertEqual(left_out(RING, PLACING, FACES), [])
        self.assertIs(goes_with(RING, PLACING, FACES), True)
        self.assertIsNone(why_not(RING, PLACING, FACES))

    def test_row(self):
        self.assertEqual(can_take(ROW, ENDS, STUCK, []), [])
        self.assertEqual(why_not(ROW, ENDS, STUCK), ("lots", STUCK_LOTS))
        self.assertEqual(left_out(ROW, ENDS, STUCK), ["b", "c"])
        self.assertIs(goes_with(ROW, ENDS, STUCK), False)
        self.assertIs(is_why(ROW, ENDS, STUCK, ("lots", STUCK_LOTS)), True)
        self.assertIs(goes_with(ROW, ENDS, {**STUCK, "b": "x", "c": "y"}), True)


class TestRows(plain.Checks):
    def test_all_rows(self):
        for rooms, doors, placing, faces in some_cases():
            house = House(rooms, doors)
            last = {}
            for row in plain.plain_rows(rooms, doors, placing, faces):
                taken = list(placing.values()) + row
                takable = plain.plain_takable(rooms, doors, placing, faces, taken)
                lots = plain.plain_lots(doors, placing, taken)
                self.assertIsNone(row_fault(house, placing, faces, row))
                self.assertEqual(can_take(house, placing, faces, row), takable)
                self.assertEqual(lots_behind(house, placing, faces, tuple(row)), lots)
                for room in sorted(set(rooms) - set(takable)):
                    self.assertEqual(row_fault(house, placing, faces, [*row, room, None]), len(row))
                if not takable:
                    last[str(lots)] = (lots, taken)
            # Behind each row that cannot go on the lots are the same.
            (lots, taken), = last.values()
            self.assertEqual(last_lots(house, placing, faces), lots)
            outside = [room for room in sorted(rooms) if faces[room] and room not in taken]
            self.assertEqual(left_out(house, placing, faces), outside)

    def test_what_can_be_taken_once(self):
        for rooms, doors, placing, faces in itertools.islice(some_cases(), 0, None, 3):
            house = House(rooms, doors)
            for row in plain.plain_rows(rooms, doors, placing, faces):
                for room in can_take(house, placing, faces, row[:-1]):
                    self.assertTrue(room in row or room in can_take(house, placing, faces, row))

    def test_wrong_rows(self):
        for thing in plain.no_lists():
            self.assertEqual(row_fault(RING, PLACING, FACES, thing), 0)
            for call in [can_take, lots_behind]:
                self.raises((errors.BadRow, 0), call, RING, PLACING, FACES, thing)
        for thing in plain.odd_things() + ["a", "b", "c", "d"]:
            self.assertEqual(row_fault(RING, PLACING, FACES, ("a", thing, None)), 1)
            for call in [can_take, lots_behind]:
                self.raises((errors.BadRow, 1), call, RING, PLACING, FACES, ["a", thing, "a"])
        self.assertIs(type(row_fault(RING, PLACING, FACES, ["d"])), int)

    def test_lots_made_one(self):
        row = House(["a", "b", "c", "d", "e"], [("a", "b"), ("b", "c"), ("c", "d"), ("d", "e")])
        placing = {"z": "e", "y": "c", "x": "a"}
        faces = {"a": None, "b": "y", "c": "w", "d": "x", "e": "z"}
        self.assertEqual(lots_behind(row, placing, faces, []), [(["x"], ["a"]), (["y"], ["c"]), (["z"], ["e"])])
        self.assertEqual(can_take(row, placing, faces, []), ["b"])
        self.assertEqual(lots_behind(row, placing, faces, ["b"]), [(["x", "y"], ["a", "b", "c"]), (["z"], ["e"])])
        self.assertEqual(lots_behind(row, placing, faces, ["b", "d"]), [(["x", "y", "z"], ["a", "b", "c", "d", "e"])])
        self.assertEqual(round_of(row, placing, faces), {"a": 0, "b": 1, "c": 0, "d": 2, "e": 0})
        self.assertEqual(lots_behind(row, {"y": "b", "x": "a"}, faces, ()), [(["x", "y"], ["a", "b"])])


class TestRounds(plain.Checks):
    def test_all(self):
        for rooms, doors, placing, faces in some_cases():
            numbers = {room: 0 for room in placing.values()}
            now = 0
            while True:
                takable = plain.plain_takable(rooms, doors, placing, faces, list(numbers))
                now += 1
                numbers.update({room: now for room in takable})
                if not takable:
                    break
            told = round_of(House(rooms, doors), placing, faces)
            self.assertEqual(told, numbers)
            self.assertEqual(list(told), sorted(numbers))


class TestRule(plain.Checks):
    def hold(self, houses, most, strangers):
        for rooms, doors in houses:
            house = House(rooms, doors)
            for many in range(most + 1):
                people = ["y", "x", "z"][:many]
                ends = plain.walked_ends(rooms, doors, people)
                for _, _, placing, faces in cases([(rooms, doors)], many, strangers):
                    if len(placing) == many:
                        self.judge(house, placing, faces, (plain.map_key(placing), plain.map_key(faces)) in ends)

    def judge(self, house, placing, faces, goes):
        self.assertIs(goes_with(house, placing, faces), goes)
        why = why_not(house, placing, faces)
        self.assertIs(why is None, goes)
        wrong = [person for person in sorted(placing) if faces[placing[person]] != person]
        self.assertIs(goes, not wrong and not left_out(house, placing, faces))
        if wrong:
            self.assertEqual(why, ("room", wrong[0]))
        elif not goes:
            self.assertEqual(why, ("lots", last_lots(house, placing, faces)))
        if not goes:
            self.assertIs(is_why(house, placing, faces, why), True)

    def test_up_to_three_rooms(self):
        self.hold(plain.small_houses(3), 3, ["w"])

    def test_four_rooms_two_people(self):
        self.hold(plain.small_houses()[-11:], 2, ["w"])

    def test_four_rooms_three_people(self):
        self.hold(plain.small_houses()[-8::3], 3, [])

    def test_five_rooms(self):
        self.hold(plain.five_room_houses()[:6:2], 2, [])
        self.hold(plain.five_room_houses()[1::2], 1, ["w"])


class TestPapers(plain.Checks):
    def test_all_lots_of_small_houses(self):
        for rooms, doors in plain.small_houses(3):
            house = House(rooms, doors)
            for many in range(3):
                people = ["y", "x"][:many]
                ends = plain.walked_ends(rooms, doors, people)
                shapes = list(self.shapes(rooms, people))
                for _, _, placing, faces in cases([(rooms, doors)], many, ["w"]):
                    if len(placing) == many:
                        found = self.papers(house, rooms, doors, placing, faces, shapes)
                        wrong = any(faces[placing[person]] != person for person in placing)
                        goes = (plain.map_key(placing), plain.map_key(faces)) in ends
                        self.assertIs(wrong or found, not goes)

    def shapes(self, rooms, people):
        """All shares of rooms and people among two lots, rooms perhaps in none, as lists of lots."""
        for by_room in itertools.product([None, 0, 1], repeat=len(rooms)):
            for by_person in itertools.product([None, 0, 1], repeat=len(people)):
                yield [([p for p, k in zip(people, by_person) if k == lot],
                        [r for r, k in zip(rooms, by_room) if k == lot]) for lot in (0, 1)]

    def papers(self, house, rooms, doors, placing, faces, shapes):
        """Judges all shares; tells whether one is a paper. No row leads out of a paper's lots."""
        found = False
        last = last_lots(house, placing, faces)
        for lots in shapes:
            wanted = plain.plain_paper(rooms, doors, placing, faces, lots)
            self.assertIs(is_why(house, placing, faces, ("lots", lots)), wanted)
            for people, some in last if wanted else []:
                self.assertTrue(any(set(people) <= set(lot[0]) and set(some) <= set(lot[1]) for lot in lots))
            found = found or wanted
        return found

    def test_room_papers(self):
        faces = {"a": "y", "b": "y", "c": "x", "d": None}
        placing = {"x": "a", "y": "b", "z": "d"}
        self.assertEqual(why_not(RING, placing, faces), ("room", "x"))
        for person in ["x", "y", "z", "w"]:
            for told in plain.both_kinds(("room", person)):
                self.assertIs(is_why(RING, placing, faces, told), person in ["x", "z"])
        for thing in plain.odd_things():
            self.assertIs(is_why(RING, placing, faces, ("room", thing)), False)
        self.assertIs(is_why(RING, placing, faces, ("room", "x", "x")), False)
        # Lots can be a paper, too, where a person's room shows another one.
        faces = {"a": "y", "b": None, "c": "x", "d": None}
        self.assertIs(is_why(ROW, {"x": "a"}, faces, ("lots", [(["x"], ["a"])])), True)

    def test_lots_papers(self):
        right = [STUCK_LOTS, STUCK_LOTS[::-1], STUCK_LOTS + [([], [])], [([], []), *STUCK_LOTS, ([], []), ([], [])]]
        for lots in right:
            for told in plain.both_kinds(("lots", lots)):
                self.assertIs(is_why(ROW, ENDS, STUCK, told), True)
        wrong = [
            [], STUCK_LOTS[:1], STUCK_LOTS * 2, STUCK_LOTS + [(["y"], [])], STUCK_LOTS + [([], ["a"])],
            [(["x"], ["d"]), (["y"], ["a"])], [(["x", "y"], ["a"]), ([], ["d"])], [(["x"], ["a", "a"]), (["y"], ["d"])],
            [(["x", "x"], ["a"]), (["y"], ["d"])], [(["x", "w"], ["a"]), (["y"], ["d"])],
            [(["x"], ["a", "b"]), (["y"], ["d"])], [(["x"], ["a"]), (["y"], ["d", "c"])],
            [(["x"], ["a", "b"]), (["y"], ["c", "d"])], [(["x", "y"], ["a", "d"])],
            [(["x", "y"], ["a", "b", "c", "d"])], [(["x"], ["a"]), (["y"], ["d"]), ([], ["b"])],
            [(["x"], ["a"]), (["y"], [])], [(["x"], ["a"], []), (["y"], ["d"])], [["x"], ["a"]], [("x", "a")],
            [(["x"], "a"), (["y"], ["d"])], [("x", ["a"]), (["y"], ["d"])], {("x",): ("a",)}, "lots",
        ]
        for lots in wrong:
            for told in plain.both_kinds(("lots", lots)):
                self.assertIs(is_why(ROW, ENDS, STUCK, told), False)

    def test_rooms_of_a_lot_need_not_hang_together(self):
        rooms = ["a", "b", "c", "d", "e", "f", "g"]
        row = House(rooms, list(zip(rooms, rooms[1:])))
        faces = {"a": "x", "b": None, "c": "x", "d": None, "e": "w", "f": None, "g": "y"}
        placing = {"y": "g", "x": "a"}
        for lots in [[(["x"], ["c", "a"]), (["y"], ["g"])], [(["y", "x"], ["g", "a", "c"])],
                     [(["x"], ["a"]), (["y"], ["g"])], [(["x"], ["a"]), (["y"], ["g"]), ([], ["e"])],
                     [(["x"], ["a"]), (["y"], ["g"]), ([], ["c", "d"])]]:
            self.assertIs(is_why(row, placing, faces, ("lots", lots)), True)
        self.assertIs(is_why(row, placing, faces, ("lots", [(["x"], ["a"]), (["y"], ["g"]), ([], ["c", "e"])])), False)

    def test_any_objects(self):
        for thing in plain.odd_things():
            for told in [thing, (thing, "x"), ("lots", thing), ("lots", [thing]), ("lots", [*STUCK_LOTS, thing]),
                         (thing, STUCK_LOTS), ("lots", STUCK_LOTS, thing), ("room", STUCK_LOTS), ("lots", "x"),
                         ("lots", [(thing, ["a"]), (["y"], ["d"])]), ("lots", [(["x"], thing), (["y"], ["d"])]),
                         ("lots", [(["x", thing], ["a"]), (["y"], ["d"])]),
                         ("lots", [(["x"], ["a", thing]), (["y"], ["d"])])]:
                self.assertIs(is_why(ROW, ENDS, STUCK, told), False)

    def test_no_paper_of_a_map_that_goes(self):
        for lots in [last_lots(RING, PLACING, FACES), STUCK_LOTS, [(["x", "y"], ["b", "c"])]]:
            self.assertIs(is_why(RING, PLACING, FACES, ("lots", lots)), False)


class TestWrong(plain.Checks):
    def test_bad_placing(self):
        things = [thing for thing in plain.odd_things() if thing != {}]
        for thing in things + [{"x": "a", "y": "a"}, {"X": "a"}, {"x": "e"}, {1: "a"}, {"x": ["a"]}]:
            for call in CALLS:
                self.raises((errors.BadPlacing, thing), call, RING, thing, FACES)
                self.raises((errors.BadPlacing, thing), call, RING, thing, None)

    def test_bad_map(self):
        for thing in plain.odd_things() + [{**FACES, "a": 1}, {**FACES, "a": "X"}, {**FACES, "e": None}, {"a": "x"}]:
            for call in CALLS:
                self.raises((errors.BadMap, thing), call, RING, PLACING, thing)
            for call in BY_ROW:
                self.raises((errors.BadMap, thing), call, RING, PLACING, thing, None)


class TestTold(plain.Checks):
    def test_same_for_other_orders(self):
        for rooms, doors, placing, faces in itertools.islice(some_cases(), 0, None, 7):
            house = House(rooms, doors)
            again = House(tuple(rooms[::-1]), [list(door[::-1]) for door in doors[::-1]])
            for call in CALLS:
                told = call(again, plain.other_order(placing), plain.other_order(faces))
                self.assertEqual(told, call(house, placing, faces))

    def test_kinds(self):
        told = why_not(ROW, ENDS, STUCK)
        self.assertEqual((type(told), type(told[1]), type(told[1][0])), (tuple, list, tuple))
        self.assertEqual([type(part) for part in told[1][0]], [list, list])
        self.assertIs(type(why_not(ROW, {"x": "b"}, STUCK)), tuple)
        for lots in [last_lots(ROW, ENDS, STUCK), lots_behind(ROW, ENDS, STUCK, [])]:
            self.assertEqual((type(lots), type(lots[0]), type(lots[0][0])), (list, tuple, list))

    def test_new_and_unchanged(self):
        placing, faces = dict(ENDS), {**STUCK, "b": "x"}
        for call in CALLS:
            told = call(ROW, placing, faces)
            kept = copy.deepcopy(told)
            lots = told[1] if isinstance(told, tuple) else told
            if isinstance(lots, list) and lots and isinstance(lots[0], tuple):
                lots[0][0].append("z")
                lots[0][1].clear()
            if isinstance(told, (list, dict)):
                told.clear()
            self.assertEqual(call(ROW, placing, faces), kept)
        paper = ("lots", [(["x"], ["b", "a"]), (["y"], ["d"])])
        is_why(ROW, placing, faces, paper)
        row = ["b"]
        can_take(ROW, placing, faces, row)
        self.assertEqual((paper, row), (("lots", [(["x"], ["b", "a"]), (["y"], ["d"])]), ["b"]))
        self.assertEqual(list(placing.items()), list(ENDS.items()))
        self.assertEqual(list(faces.items()), list({**STUCK, "b": "x"}.items()))


class TestFacts(plain.Checks):
    def test_what_goes_stays_so(self):
        for rooms, doors, placing, faces in some_cases():
            if not goes_with(House(rooms, doors), placing, faces):
                continue
            for door in itertools.combinations(rooms, 2):
                if door not in doors and door[::-1] not in doors:
                    self.assertTrue(goes_with(House(rooms, doors + [door]), placing, faces))
            for room in set(rooms) - set(placing.values()):
                more, shown = {**placing, "v": room}, {**faces, room: "v"}
                self.assertTrue(goes_with(House(rooms, doors), more, shown))
                for person in placing:
                    if room in plain.near(doors, placing[person]):
                        gone, shown = {**placing, person: room}, {**faces, room: person}
                        self.assertTrue(goes_with(House(rooms, doors), gone, shown))

    def test_one_person_alone(self):
        for rooms, doors, placing, faces in cases(plain.small_houses() + plain.five_room_houses()[:3], 1):
            shown = [room for room in rooms if faces[room]]
            if placing:
                goes = faces[placing["y"]] == "y" and {faces[room] for room in shown} == {"y"}
                goes = goes and len(plain.plain_parts(doors, shown)) == 1
            else:
                goes = not shown
            self.assertIs(goes_with(House(rooms, doors), placing, faces), goes)


class TestLimits(plain.Checks):
    def test_sixty_rooms_twenty_people(self):
        rooms = [f"r{k:02d}" for k in range(60)]
        row = House(rooms, list(zip(rooms, rooms[1:])))
        placing = {f"p{k:02d}": rooms[k] for k in range(20)}
        faces = {rooms[k]: f"p{k * 7 % 20:02d}" if k > 19 else f"p{k:02d}" for k in range(60)}
        self.assertTrue(goes_with(row, placing, faces))
        self.assertEqual(last_lots(row, placing, faces), [(sorted(placing), rooms)])
        self.assertEqual(round_of(row, placing, faces), {rooms[k]: max(0, k - 19) for k in range(60)})
        self.assertEqual(can_take(row, placing, faces, rooms[20:50]), [rooms[50]])
        faces[rooms[40]] = None
        self.assertEqual(left_out(row, placing, faces), rooms[41:])
        self.assertEqual(why_not(row, placing, faces), ("lots", [(sorted(placing), rooms[:40])]))

    def test_two_hundred_doors(self):
        rooms = [f"r{k:02d}" for k in range(60)]
        doors = [(rooms[a], rooms[b]) for a in range(60) for b in range(a + 1, min(a + 4, 60))]
        doors += [(rooms[k], rooms[k + 30]) for k in range(200 - len(doors))]
        house = House(rooms, doors)
        self.assertEqual(len(house.doors()), 200)
        placing = {f"p{k:02d}": rooms[3 * k] for k in range(20)}
        faces = {rooms[k]: f"p{k // 3:02d}" for k in range(60)}
        self.assertTrue(goes_with(house, placing, faces))
        self.assertEqual(last_lots(house, placing, faces), [(sorted(placing), rooms)])
        lots = [([f"p{k:02d}"], [rooms[3 * k]]) for k in range(20)]
        self.assertIs(is_why(house, placing, faces, ("lots", lots)), False)


if __name__ == "__main__":
    unittest.main()
