"""Points [2] to [6] of all functions of sections 3 to 6: what is told is new, what was passed is unchanged, lists and
tuples stand for one another, and nothing is kept from one call to the next."""

import copy
import unittest

import plain
from lastfaces.bothmaps import begin_rooms, both_fault, both_walk, seen_parts, together_fault, together_walk
from lastfaces.builtwalks import walk_fault, walk_for
from lastfaces.fields import fields, joined_fields
from lastfaces.firstmaps import count_first, first_at, first_number, is_first_map
from lastfaces.houses import House, beside
from lastfaces.keptaway import is_kept, is_kept_paper, kept_paper, kept_walk, sure_people, surely_came
from lastfaces.lastamong import can_stand, last_among, last_clash, sure_last
from lastfaces.lastcounts import count_last, drawn_last, last_at, last_number
from lastfaces.lastrooms import in_two, some_last
from lastfaces.lotsbyrows import can_take, lots_behind, row_fault
from lastfaces.maps import is_map, is_placing, rooms_of, seen_rooms, shown
from lastfaces.therule import goes_with, is_why, last_lots, left_out, round_of, why_not
from lastfaces.toldrooms import best_told, fewest_places, left_mean, stand_chances
from lastfaces.walks import first_faces, is_walk, last_faces, stands, turned
from lastfaces.wants import ring_of_doors, ring_of_wants, wants
from lastfaces.ways import parts, round_about, steps_between, way

ROOMS = ["f", "d", "b", "a", "c", "e"]
ROW = [("a", "b"), ("c", "b"), ("c", "d"), ("f", "e")]
RING = ROW + [("a", "d")]
NONE = dict.fromkeys(ROOMS)
ENDS = {"y": "d", "x": "a"}
STUCK = {**NONE, "a": "x", "b": "y", "c": "x", "d": "y"}
GOES = {**NONE, "a": "x", "b": "x", "c": "y", "d": "y"}
OTHER = {**NONE, "a": "x", "b": "y", "c": "y", "d": "y"}
PARTED = {**STUCK, "c": None, "f": "x"}
WALK = ({"y": "c", "x": "a"}, [("x", "b"), ("y", "b"), ("x", "c"), ("x", "d"), ("x", "c")])

# Functions with what they are asked behind a house; the house has a ring but where a function wants none.
CALLS = [
    (ring_of_doors,),
    (beside, "b"),
    (parts, ["d", "a", "b", "e"]),
    (round_about, ["b", "f"]),
    (way, "a", "c"),
    (way, "a", "f"),
    (steps_between, "a", "c"),
    (is_walk, *WALK),
    (stands, *WALK),
    (last_faces, *WALK),
    (first_faces, *WALK),
    (turned, *WALK),
    (is_map, STUCK),
    (is_placing, ENDS),
    (shown, STUCK),
    (seen_rooms, STUCK),
    (rooms_of, STUCK, "x"),
    (row_fault, ENDS, GOES, ["b", "c"]),
    (can_take, ENDS, GOES, ["b"]),
    (lots_behind, ENDS, GOES, ["b"]),
    (last_lots, ENDS, STUCK),
    (left_out, ENDS, PARTED),
    (round_of, ENDS, GOES),
    (goes_with, ENDS, GOES),
    (why_not, ENDS, PARTED),
    (is_why, ENDS, PARTED, ("lots", [(["y", "x"], ["d", "a"])])),
    (walk_for, ENDS, GOES),
    (walk_fault, {"x": "c", "y": "b"}, {**NONE, "a": "x", "b": "y", "c": "x"}, *WALK),
    (some_last, STUCK),
    (in_two, PARTED),
    (last_among, STUCK, {}),
    (last_among, STUCK, {"y": ["d", "b"], "x": ["c"]}),
    (last_clash, {**STUCK, "f": "z"}, {"z": [], "y": ["d", "b"]}),
    (can_stand, STUCK, {"y": ["d", "b"]}, "x"),
    (sure_last, STUCK, {"y": ["d", "b"], "x": ["c"]}),
    (fields, STUCK, ["y", "x"]),
    (joined_fields, STUCK, {"y": ["d", "b"]}, ["y", "x"]),
    (count_last, STUCK, {"y": ["d", "b"], "x": ["c"]}),
    (last_at, STUCK, {"y": ["d", "b"]}, 1),
    (last_number, STUCK, {"y": ["d", "b"]}, ENDS),
    (drawn_last, STUCK, {"y": ["d", "b"]}, lambda many: many - 1),
    (stand_chances, STUCK, {"y": ["d", "b"]}, "x"),
    (left_mean, STUCK, {"y": ["d", "b"]}, "x"),
    (best_told, STUCK, {"y": ["d", "b"]}),
    (fewest_places, ENDS, GOES),
    (seen_parts, PARTED),
    (both_walk, ENDS, GOES, ENDS, OTHER),
    (both_fault, ENDS, GOES, ENDS, PARTED),
    (begin_rooms, ENDS, GOES),
    (together_walk, GOES, OTHER),
    (together_fault, GOES, {**GOES, "a": "z"}),
    (is_first_map, ENDS, GOES, OTHER),
    (count_first, ENDS, GOES),
    (first_at, ENDS, GOES, 5),
    (first_number, ENDS, GOES, OTHER),
    (is_kept, {"x": ["b", "a"], "w": []}),
    (kept_walk, ENDS, GOES, {"x": ["d", "e"], "w": []}),
    (kept_paper, ENDS, GOES, {"x": ["d", "b"]}),
    (is_kept_paper, ENDS, GOES, {"x": ["d", "b"]}, ("rooms", ["a", "d", "c"], "b")),
    (surely_came, ENDS, GOES, "x"),
    (sure_people, ENDS, GOES, "b"),
]
WITHOUT_RINGS = [(wants, ENDS, STUCK), (ring_of_wants, ENDS, STUCK)]
EACH = [(RING, *case) for case in CALLS] + [(ROW, *case) for case in WITHOUT_RINGS]

# Pairs of rows that a function is asked in turns.
TURNS = [
    (last_lots, (ENDS, STUCK), (ENDS, {**NONE, "a": "x", "d": "y"})),
    (goes_with, (ENDS, PARTED), (ENDS, GOES)),
    (walk_for, (ENDS, OTHER), (ENDS, GOES)),
    (some_last, (STUCK,), ({**NONE, "c": "x"},)),
    (in_two, (STUCK,), (PARTED,)),
    (last_among, (STUCK, {"x": ["a"]}), (STUCK, {"x": ["c"]})),
    (last_among, (STUCK, {}), (GOES, {})),
    (last_clash, (STUCK, {"x": []}), (STUCK, {"y": []})),
    (can_stand, (STUCK, {"x": ["a"]}, "x"), (STUCK, {"x": ["c"]}, "x")),
    (can_stand, (STUCK, {}, "x"), (OTHER, {}, "x")),
    (sure_last, (STUCK, {"x": ["a"]}), (GOES, {"x": ["b"]})),
    (fields, (STUCK, ["x"]), (OTHER, ["x"])),
    (joined_fields, (STUCK, {"x": ["a"]}, ["x"]), (STUCK, {"x": ["c"]}, ["x"])),
    (count_last, (STUCK, {}), (OTHER, {})),
    (count_last, (STUCK, {"x": ["a"]}), (STUCK, {"x": []})),
    (last_at, (STUCK, {}, 0), (GOES, {}, 0)),
    (last_number, (OTHER, {}, ENDS), (OTHER, {"y": ["d"]}, ENDS)),
    (stand_chances, (STUCK, {"y": ["d"]}, "x"), (STUCK, {"x": ["c"]}, "x")),
    (left_mean, (STUCK, {"y": ["d"]}, "x"), (GOES, {}, "x")),
    (best_told, (STUCK, {"y": ["d"]}), (STUCK, {"x": ["a"]})),
    (fewest_places, (ENDS, OTHER), (ENDS, GOES)),
    (seen_parts, (STUCK,), (PARTED,)),
    (both_walk, (ENDS, GOES, ENDS, OTHER), (ENDS, OTHER, ENDS, GOES)),
    (begin_rooms, (ENDS, GOES), (ENDS, {**NONE, "a": "x", "d": "y"})),
    (together_walk, (GOES, OTHER), (OTHER, GOES)),
    (count_first, (ENDS, GOES), (ENDS, {**NONE, "a": "x", "d": "y"})),
    (is_first_map, (ENDS, GOES, OTHER), (ENDS, GOES, PARTED)),
    (first_number, (ENDS, GOES, OTHER), (ENDS, GOES, GOES)),
    (kept_walk, (ENDS, GOES, {"x": ["d"]}), (ENDS, GOES, {"x": ["b"]})),
    (kept_paper, (ENDS, GOES, {"x": ["d"]}), (ENDS, GOES, {"x": ["b"]})),
    (surely_came, (ENDS, GOES, "x"), (ENDS, OTHER, "x")),
    (sure_people, (ENDS, GOES, "b"), (ENDS, OTHER, "b")),
]


def order_of(thing):
    """A thing with the order of its dicts, at every depth."""
    if isinstance(thing, dict):
        return [(key, order_of(thing[key])) for key in thing]
    if isinstance(thing, (list, tuple)):
        return [type(thing), *[order_of(part) for part in thing]]
    return thing


def spoil(told):
    """Changes all lists and dicts within what was told."""
    for part in list(told.values()) if isinstance(told, dict) else told if isinstance(told, (list, tuple)) else []:
        spoil(part)
    if isinstance(told, (list, dict)):
        told.clear()
    if isinstance(told, list):
        told.append("spoilt")


def change(one, other):
    """Changes a dict or list in place so that it is as another, inner ones too where both have them."""
    if isinstance(one, dict):
        for key in [key for key in one if key not in other]:
            del one[key]
        for key in other:
            if isinstance(one.get(key), list):
                one[key][:] = other[key]
            else:
                one[key] = copy.deepcopy(other[key])
    else:
        one[:] = other


class TestEverywhere(plain.Checks):
    def test_told_and_passed(self):
        for doors, call, *args in EACH:
            with self.subTest(call.__name__):
                house = House(ROOMS, doors)
                passed = copy.deepcopy(args)
                told = call(house, *passed)
                self.ascends(told)
                self.assertEqual(order_of(passed), order_of(args))
                kept = copy.deepcopy(told)
                spoil(told)
                self.assertEqual(order_of(passed), order_of(args))
                again = call(house, *passed)
                self.assertEqual(order_of(again), order_of(kept))
                self.assertEqual(house, House(ROOMS, doors))

    def test_equal_arguments(self):
        for doors, call, *args in EACH:
            with self.subTest(call.__name__):
                told = call(House(ROOMS, doors), *args)
                lists, tuples = plain.both_kinds(args)
                again = House(tuple(sorted(ROOMS)), [list(door[::-1]) for door in doors[::-1]])
                for other in [lists, tuples, [self.turned_dicts(part) for part in args]]:
                    self.assertEqual(order_of(call(again, *other)), order_of(told))

    def turned_dicts(self, part):
        if isinstance(part, dict):
            return {key: self.turned_dicts(part[key]) for key in reversed(list(part))}
        return part

    def test_in_turns(self):
        house = House(ROOMS, RING)
        for call, one, other in TURNS:
            with self.subTest(call.__name__):
                fresh = [call(House(ROOMS, RING), *args) for args in (one, other)]
                self.assertNotEqual(*fresh)
                for _ in range(2):
                    for args, wanted in zip((one, other), fresh):
                        self.assertEqual(order_of(call(house, *args)), order_of(wanted))

    def test_changed_in_place(self):
        house = House(ROOMS, RING)
        for call, one, other in TURNS:
            with self.subTest(call.__name__):
                passed = [copy.deepcopy(part) for part in one]
                self.assertEqual(call(house, *passed), call(House(ROOMS, RING), *one))
                for now in (other, one):
                    for index, part in enumerate(passed):
                        if isinstance(part, (dict, list)):
                            change(part, now[index])
                        else:
                            passed[index] = now[index]
                    self.assertEqual(call(house, *passed), call(House(ROOMS, RING), *now))

    def test_turns_between_houses(self):
        more = [(goes_with, ENDS, GOES), (count_last, STUCK, {}), (surely_came, ENDS, GOES, "x")]
        for call, *args in WITHOUT_RINGS + more:
            told = [call(House(ROOMS, ROW), *args), call(House(ROOMS, ROW[:3]), *args)]
            houses = [House(ROOMS, ROW), House(ROOMS, ROW[:3])]
            for _ in range(2):
                self.assertEqual([call(house, *args) for house in houses], told)

    def test_what_was_told_may_be_passed_on(self):
        house = House(ROOMS, RING)
        placing = some_last(house, STUCK)
        self.assertEqual(last_number(house, STUCK, {}, placing), last_number(house, STUCK, {}, dict(placing)))
        clash = last_clash(house, STUCK, {"x": []})
        self.assertEqual(clash, ["x"])
        self.assertEqual(joined_fields(house, STUCK, {"x": []}, clash), [])
        start, steps = together_walk(house, GOES, OTHER)
        self.assertEqual(last_faces(house, start, steps), OTHER)
        self.assertEqual(first_faces(house, start, steps), GOES)
        paper = kept_paper(house, ENDS, GOES, {"x": ["d", "b"]})
        self.assertIs(is_kept_paper(house, ENDS, GOES, {"x": ["d", "b"]}, paper), True)
        self.assertEqual(first_number(house, ENDS, GOES, first_at(house, ENDS, GOES, 5)), 5)
        kept = {person: parts(house, rooms)[0] for person, rooms in begin_rooms(house, ENDS, GOES).items()}
        self.assertIs(is_kept(house, kept), True)


if __name__ == "__main__":
    unittest.main()
