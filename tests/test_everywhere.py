"""Points [2] to [6] of all functions: what is told is new, what was passed is unchanged, lists and
tuples stand for one another, and nothing is kept from one call to the next."""

import copy
import importlib
import inspect
import unittest

import plain
import test_errors
from plain import other_order
from lastfaces.aheads import ahead_pairs, always_ahead, ending_rooms, leading_rooms, places_of
from lastfaces.alone import count_alone, count_through, steps_alone, steps_through
from lastfaces.alonenumbers import through_at, through_number
from lastfaces.awayclaims import claims_can_be, claims_clash, most_claims
from lastfaces.bothmaps import begin_rooms, both_fault, both_walk, seen_parts, together_fault, together_walk
from lastfaces.builtwalks import walk_fault, walk_for
from lastfaces.changes import good_changes, harming_changes, moved_to, with_person
from lastfaces.chutes import needless_chutes, sure_floors, tower_begins
from lastfaces.doorchanges import built_doors, fewest_doors, mending_doors, needed_doors
from lastfaces.dues import due_paper, order_by
from lastfaces.enough import fewest_told, follows, needless, tells_enough
from lastfaces.exchanges import apart, order_row
from lastfaces.fewsteps import fewest_steps, short_walk, spans_wanted
from lastfaces.fields import fields, joined_fields
from lastfaces.fillings import could_show, count_fillings, filling, filling_paper, fullest, last_rooms, most_seen
from lastfaces.fillings import narrowed, sure_faces
from lastfaces.firstmaps import count_first, first_at, first_number, is_first_map
from lastfaces.guesses import is_guesses, is_within, wiped
from lastfaces.houses import House, beside
from lastfaces.inns import Inn
from lastfaces.inntexts import read_inn, write_inn
from lastfaces.joinedpieces import handed, joined_pieces
from lastfaces.joinings import joined_at, joinings
from lastfaces.keepers import beat_asker, fewest_house, told_house
from lastfaces.keptaway import is_kept, is_kept_paper, kept_paper, kept_walk, sure_people, surely_came
from lastfaces.lastamong import can_stand, last_among, last_clash, sure_last
from lastfaces.lastcounts import count_last, drawn_last, last_at, last_number
from lastfaces.lastrooms import in_two, some_last
from lastfaces.lookers import beat_looker, run_looker
from lastfaces.looks import best_look, fewest_looks, maps_left, settled
from lastfaces.lotsbyrows import can_take, lots_behind, row_fault
from lastfaces.mapcounts import count_maps, map_number, map_numbered, maps_by_seen, mean_rooms, one_lot_chance
from lastfaces.mapcounts import shown_chances
from lastfaces.maprows import fewest_changed, is_row, nearest_maps, row_between
from lastfaces.maps import is_map, is_placing, rooms_of, seen_rooms, shown
from lastfaces.mustrooms import came_to, could_rooms, must_rooms, needed_people
from lastfaces.onegate import gate_rows, is_rows, told_piece
from lastfaces.ordercounts import ahead_chance, count_orders, mean_place, next_order, order_number, order_numbered
from lastfaces.orders import is_order, left_rooms, order_of, walk_in_order
from lastfaces.partedhouses import is_parting_claim, lets, parting_claim
from lastfaces.otherhouses import built_on, joined_by, part_of, renamed, without_door
from lastfaces.parting import alike_pieces, is_parting, parting_house, set_in
from lastfaces.pieces import Piece, is_given, is_whole, never_whole, outside_names, seen_at
from lastfaces.shypeople import is_shy_why, shy_walk, shy_why
from lastfaces.takings import first_left, taken_by
from lastfaces.therule import goes_with, is_why, last_lots, left_out, round_of, why_not
from lastfaces.toldrooms import best_told, fewest_places, left_mean, stand_chances
from lastfaces.towerrule import floors_at_last, is_tower_why, tower_taken, tower_walk, tower_why
from lastfaces.towers import Tower, floor_of, whole_house
from lastfaces.towerwalks import is_tower_walk, tower_faces, tower_stands
from lastfaces.turns import fewest_turns, first_row, turns_of, walk_in_turns
from lastfaces.walkchances import face_chances, left_chances, mean_seen, never_chance
from lastfaces.walkcounts import count_first_with, count_walks, count_walks_to, count_walks_with, cover_counts
from lastfaces.walks import first_faces, is_walk, last_faces, stands, turned
from lastfaces.wants import ring_of_doors, ring_of_wants, wants
from lastfaces.ways import parts, round_about, steps_between, way
from lastfaces.wishes import is_wish_paper, order_with, wish_paper

ROOMS = ["f", "d", "b", "a", "c", "e"]
ROW = [("a", "b"), ("c", "b"), ("c", "d"), ("f", "e")]
RING = ROW + [("a", "d")]
TREE = ROW + [("e", "a")]
NONE = dict.fromkeys(ROOMS)
ENDS = {"y": "d", "x": "a"}
STUCK = {**NONE, "a": "x", "b": "y", "c": "x", "d": "y"}
GOES = {**NONE, "a": "x", "b": "x", "c": "y", "d": "y"}
OTHER = {**NONE, "a": "x", "b": "y", "c": "y", "d": "y"}
PARTED = {**STUCK, "c": None, "f": "x"}
GUESSES = {"f": [None, "x"], "e": [None], "d": ["y"], "c": ["w", None, "y", "x"], "b": ["y", "x"], "a": [None, "x"]}
NO_FILLING = {**GUESSES, "f": ["x", "y"]}
ALL_X = {**NONE, "a": "x", "b": "x", "c": "x", "d": "x"}
WALK = ({"y": "c", "x": "a"}, [("x", "b"), ("y", "b"), ("x", "c"), ("x", "d"), ("x", "c")])

CLAIMS = [({"y": "d"}, {**NONE, "d": "y", "c": "y"}), ({"x": "e"}, {**NONE, "e": "x", "a": "x"}), (ENDS, GOES)]


def told_of(house, keeper):
    return told_house(house.rooms(), keeper)


def beaten(house, asker, many):
    return beat_asker(house.rooms()[:4], asker, many)


def fewest_of(house, claims):
    return fewest_house(house.rooms(), claims)


# Functions with what they are asked behind a house; the house has a ring but where a function wants none.
CALLS = [
    (ring_of_doors,),
    (beside, "b"),
    (parts, ["d", "a", "b", "e"]),
    (round_about, ["b", "f"]),
    (way, "a", "c"),
    (way, "a", "f"),
    (steps_between, "a", "c"),
    (is_walk, *WALK),
    (stands, *WALK),
    (last_faces, *WALK),
    (first_faces, *WALK),
    (turned, *WALK),
    (is_map, STUCK),
    (is_placing, ENDS),
    (shown, STUCK),
    (seen_rooms, STUCK),
    (rooms_of, STUCK, "x"),
    (row_fault, ENDS, GOES, ["b", "c"]),
    (can_take, ENDS, GOES, ["b"]),
    (lots_behind, ENDS, GOES, ["b"]),
    (last_lots, ENDS, STUCK),
    (left_out, ENDS, PARTED),
    (round_of, ENDS, GOES),
    (goes_with, ENDS, GOES),
    (why_not, ENDS, PARTED),
    (is_why, ENDS, PARTED, ("lots", [(["y", "x"], ["d", "a"])])),
    (walk_for, ENDS, GOES),
    (walk_fault, {"x": "c", "y": "b"}, {**NONE, "a": "x", "b": "y", "c": "x"}, *WALK),
    (some_last, STUCK),
    (in_two, PARTED),
    (last_among, STUCK, {}),
    (last_among, STUCK, {"y": ["d", "b"], "x": ["c"]}),
    (last_clash, {**STUCK, "f": "z"}, {"z": [], "y": ["d", "b"]}),
    (can_stand, STUCK, {"y": ["d", "b"]}, "x"),
    (sure_last, STUCK, {"y": ["d", "b"], "x": ["c"]}),
    (fields, STUCK, ["y", "x"]),
    (joined_fields, STUCK, {"y": ["d", "b"]}, ["y", "x"]),
    (count_last, STUCK, {"y": ["d", "b"], "x": ["c"]}),
    (last_at, STUCK, {"y": ["d", "b"]}, 1),
    (last_number, STUCK, {"y": ["d", "b"]}, ENDS),
    (drawn_last, STUCK, {"y": ["d", "b"]}, lambda many: many - 1),
    (stand_chances, STUCK, {"y": ["d", "b"]}, "x"),
    (left_mean, STUCK, {"y": ["d", "b"]}, "x"),
    (best_told, STUCK, {"y": ["d", "b"]}),
    (fewest_places, ENDS, GOES),
    (seen_parts, PARTED),
    (both_walk, ENDS, GOES, ENDS, OTHER),
    (both_fault, ENDS, GOES, ENDS, PARTED),
    (begin_rooms, ENDS, GOES),
    (together_walk, GOES, OTHER),
    (together_fault, GOES, {**GOES, "a": "z"}),
    (is_first_map, ENDS, GOES, OTHER),
    (count_first, ENDS, GOES),
    (first_at, ENDS, GOES, 5),
    (first_number, ENDS, GOES, OTHER),
    (is_kept, {"x": ["b", "a"], "w": []}),
    (kept_walk, ENDS, GOES, {"x": ["d", "e"], "w": []}),
    (kept_paper, ENDS, GOES, {"x": ["d", "b"]}),
    (is_kept_paper, ENDS, GOES, {"x": ["d", "b"]}, ("rooms", ["a", "d", "c"], "b")),
    (surely_came, ENDS, GOES, "x"),
    (sure_people, ENDS, GOES, "b"),
    (is_guesses, GUESSES),
    (wiped, GOES, ["d", "b"], ["z", "y"]),
    (is_within, GUESSES, GOES),
    (filling, ENDS, GUESSES),
    (filling_paper, ENDS, NO_FILLING),
    (could_show, ENDS, GUESSES, "c"),
    (narrowed, ENDS, GUESSES),
    (sure_faces, ENDS, GUESSES),
    (most_seen, ENDS, GUESSES),
    (fullest, ENDS, GUESSES),
    (last_rooms, ENDS, GUESSES),
    (count_fillings, ENDS, GUESSES),
    (follows, ENDS, GOES, "b"),
    (needless, ENDS, GOES),
    (tells_enough, ENDS, GOES, ["d", "b", "c", "e", "f"]),
    (fewest_told, ENDS, GOES),
    (left_rooms, ENDS, GOES),
    (is_order, ENDS, GOES, ["c", "b"]),
    (order_of, *WALK),
    (walk_in_order, ENDS, GOES, ["c", "b"]),
    (always_ahead, ENDS, GOES, "c", "b"),
    (ahead_pairs, ENDS, {**GOES, "b": None}),
    (leading_rooms, ENDS, GOES),
    (ending_rooms, ENDS, GOES),
    (places_of, ENDS, GOES, "c"),
    (order_with, ENDS, GOES, [("c", "b"), ("c", "b")]),
    (wish_paper, ENDS, GOES, [("c", "b"), ("b", "c")]),
    (is_wish_paper, ENDS, GOES, [("c", "b"), ("b", "c")], ["c", "b"]),
    (apart, ENDS, GOES, ["c", "b"], ["b", "c"]),
    (order_row, ENDS, GOES, ["c", "b"], ["b", "c"]),
    (count_orders, ENDS, GOES),
    (order_numbered, ENDS, GOES, 1),
    (order_number, ENDS, GOES, ["c", "b"]),
    (next_order, ENDS, GOES, ["b", "c"]),
    (ahead_chance, ENDS, GOES, "b", "c"),
    (mean_place, ENDS, GOES, "c"),
    (taken_by, ENDS, STUCK, ["y", "x"]),
    (first_left, ENDS, STUCK, ["y", "x"]),
    (turns_of, *WALK),
    (fewest_turns, ENDS, GOES),
    (walk_in_turns, ENDS, GOES),
    (first_row, ENDS, GOES),
    (fewest_steps, ENDS, GOES),
    (short_walk, ENDS, GOES),
    (good_changes, ENDS, GOES),
    (harming_changes, ENDS, STUCK),
    (with_person, ENDS, GOES, "w", "f"),
    (moved_to, ENDS, GOES, "x"),
    (row_between, ENDS, GOES, {**OTHER, "b": None}),
    (is_row, ENDS, [GOES, {**GOES, "b": "y"}]),
    (fewest_changed, ENDS, PARTED),
    (nearest_maps, ENDS, PARTED),
    (needed_doors, ENDS, GOES),
    (mending_doors, ENDS, {**GOES, "f": "x"}),
    (fewest_doors, ENDS, {**GOES, "f": "x"}),
    (built_doors, ENDS, {**GOES, "f": "x"}),
    (lets, CLAIMS),
    (parting_claim, House(ROOMS, ROW)),
    (is_parting_claim, House(ROOMS, ROW), ({"x": "a"}, {**NONE, "a": "x", "d": "x"})),
    (told_of, lambda claim: claim[0]["x"] < "c"),
    (beaten, lambda answers: [{"x": "a"}, dict.fromkeys("abcd", "x" if len(answers) < 2 else None)], 3),
    (fewest_of, CLAIMS),
    (is_parting_claim, House(ROOMS, ROW), ({"x": "a"}, {**NONE, "a": "x"})),
    (count_maps, ENDS),
    (maps_by_seen, ENDS),
    (shown_chances, ENDS, "b"),
    (mean_rooms, ENDS),
    (one_lot_chance, ENDS),
    (map_numbered, ENDS, 5),
    (map_number, ENDS, GOES),
    (count_walks, WALK[0], 4),
    (count_walks_to, WALK[0], 4, ENDS),
    (count_walks_with, WALK[0], 5, {"y": "b", "x": "c"}, {**NONE, "a": "x", "b": "y", "c": "x", "d": "x"}),
    (count_first_with, WALK[0], 5, {"y": "b", "x": "c"}, {**NONE, "a": "x", "b": "x", "c": "y", "d": "x"}),
    (cover_counts, "b", 4),
    (never_chance, WALK[0], 3, "d"),
    (mean_seen, WALK[0], 3),
    (face_chances, WALK[0], 3, "b"),
    (left_chances, WALK[0], 3, "b"),
    (shy_walk, ENDS, GOES, {"y": ["b", "a"], "x": ["d"]}),
    (shy_why, ENDS, STUCK, {"y": ["c", "a"], "x": ["d"]}),
    (is_shy_why, ENDS, STUCK, {"y": ["c", "a"], "x": ["d"]}, ("rooms", ["d", "a"])),
    (must_rooms, ENDS, GOES, "x"),
    (could_rooms, ENDS, GOES, "x"),
    (came_to, ENDS, STUCK),
    (needed_people, ENDS, STUCK, "b"),
    (part_of, ["d", "b", "a"]),
    (built_on, "z", ["f", "a"]),
    (joined_by, House(["n", "m"], [("n", "m")]), [("f", "m"), ("a", "n")]),
    (renamed, dict(zip(ROOMS, "zyxwvu"))),
    (without_door, "b", "a"),
    (joined_at, ENDS, STUCK, "y", "x"),
    (joinings, ENDS, STUCK),
    (claims_can_be, ENDS, STUCK, [("x", "d"), ("y", "a")]),
    (claims_clash, ENDS, STUCK, [("x", "f"), ("x", "d"), ("y", "a"), ("x", "b")]),
    (most_claims, ENDS, STUCK, [("x", "f"), ("x", "d"), ("y", "a"), ("x", "b")]),
]


def looks_at_b(seen):
    return ("look", "b") if "b" not in seen else ["tell", dict(zip("fedcba", [*"xxyyyx"]))]


OF_LOOKERS = [(run_looker, ENDS, {**GOES, "f": "x", "e": "x"}, looks_at_b),
              (beat_looker, ENDS, {"e": "x"}, looks_at_b, 1)]
OF_LOOKS = [(maps_left, ENDS, {"e": "x", "b": "y"}), (settled, ENDS, {"c": "x", "e": "x"}), (fewest_looks, ENDS, {}),
            (best_look, ENDS, {"f": "x"})]
WITHOUT_RINGS = [(wants, ENDS, STUCK), (ring_of_wants, ENDS, STUCK), (order_by, {"x": "b"}, ALL_X, {"d": 3, "a": 1}),
                 (due_paper, {"x": "b"}, ALL_X, {"d": 2, "a": 1}), (ahead_pairs, {"x": "b"}, ALL_X),
                 (spans_wanted, {"x": "b"}, ALL_X)]
OF_TREES = [(steps_alone, "b"), (steps_through, "b", "f"), (count_through, "a", "a"), (count_alone, "b"),
            (through_at, "a", "a", 1), (through_number, ["a", "e", "f", "e", "a", "b", "c", "d"])]
WITHIN = {"y": "c", "x": "a"}
UP = {"f": "x", "e": None, "d": "y", "c": "y", "b": "x", "a": "x"}
NOT_UP = {**UP, "b": "y"}
DOWN = ({"y": "d", "x": "f"}, [("x", "c"), ("y", "c"), ("x", "b"), ("x", "a")])
OF_TOWERS = [
    (whole_house,),
    (floor_of, "d"),
    (is_tower_walk, *DOWN),
    (tower_stands, *DOWN),
    (tower_faces, *DOWN),
    (tower_taken, WITHIN, UP),
    (floors_at_last, WITHIN, UP),
    (tower_walk, WITHIN, UP),
    (tower_why, WITHIN, NOT_UP),
    (is_tower_why, WITHIN, NOT_UP, ("floors", ["f", "d", "c", "a"], {"y": 1, "x": 2})),
    (tower_begins, WITHIN, UP),
    (needless_chutes, WITHIN, UP),
    (sure_floors, WITHIN, UP, "x"),
]
OF_PIECES = [(outside_names,), (is_given, {"d": ["y", "x"], "a": ["x", "y"]}), (seen_at, {"d": ["y", "x"]}),
             (is_whole, {"d": ["y", "x"], "a": ["x", "y"]}), (never_whole,)]


def house_of(doors):
    """What makes a house, or an equal one of other lists."""
    def make(is_other=False):
        if is_other:
            return House(tuple(sorted(ROOMS)), [list(door[::-1]) for door in doors[::-1]])
        return House(ROOMS, doors)
    return make


def a_tower(is_other=False):
    """A tower of two rooms on each floor, or an equal one of other lists."""
    floors = [House(rooms, [rooms]) for rooms in [("b", "a"), ("c", "d"), ("f", "e")]]
    chutes = [(2, "c"), (1, "b"), (1, "a"), (2, "a")]
    if is_other:
        return Tower(tuple(floors), ("a", "c", "f"), [list(chute) for chute in chutes[::-1]])
    return Tower(floors, ["a", "c", "f"], chutes)


def a_piece(is_other=False):
    """A piece with three gates, or an equal one of other lists."""
    placing, faces = {"q": "c", "p": "b"}, {**NONE, "d": "y", "c": "q", "b": "p", "a": "x"}
    if is_other:
        return Piece(house_of(ROW)(True), ("d", "f", "a"), other_order(placing), other_order(faces))
    return Piece(house_of(ROW)(), ["a", "d", "f"], placing, faces)


def a_gate(is_other=False):
    """A piece with one gate, or an equal one of other lists."""
    placing, faces = {"q": "c", "p": "b"}, {**NONE, "d": "y", "c": "q", "b": "p", "a": "x"}
    if is_other:
        return Piece(house_of(ROW)(True), ("d",), other_order(placing), other_order(faces))
    return Piece(house_of(ROW)(), ["d"], placing, faces)


OTHER_PIECE = Piece(House(["a", "d", "f"], []), ["a", "d", "f"], {"q": "a", "p": "f"}, {"a": "q", "d": "x", "f": "p"})
FAR_PIECE = Piece(House(["m", "n"], [("m", "n")]), ["n", "m"], {"y": "m", "x": "n"}, {"m": "y", "n": "x"})
AROUND = (House(["n", "m"], []), {"x": "m"}, {"n": "y", "m": "x"}, [("f", "n"), ("a", "m"), ("d", "m")])
OF_PIECES += [
    (alike_pieces, OTHER_PIECE),
    (parting_house, OTHER_PIECE),
    (is_parting, OTHER_PIECE, AROUND),
    (set_in, AROUND),
    (joined_pieces, FAR_PIECE, [("d", "n"), ("a", "m")]),
    (handed, FAR_PIECE, [("d", "n")], {"f": ["w"], "a": ["z", "y"]}),
]


def an_inn(is_other=False):
    """An inn in which something was done, and taken back, or an equal one with other deeds."""
    if is_other:
        return read_inn(write_inn(an_inn()))
    inn = Inn("b")
    for deed in [("build", "a", "b"), ["build", "c", "b"], ("door", "c", "a"), ("come", "y", "a"), ("come", "x", "c"),
                 ("go", "y", "b"), ["watch", ["can"]], ("hold", ("reach", "x")), ("paint", "a", "x")]:
        inn.do(deed)
    inn.undo()
    return inn


OF_INNS = [(write_inn,), (Inn.now,), (Inn.where,), (Inn.faces,), (Inn.watched,), (Inn.is_question, ("seen", "x")),
           (Inn.answer, ("seen", "y")), (Inn.would, ("paint", "a", "x")), (Inn.could_show, "a"), (Inn.mending_rooms,),
           (Inn.copy,), (Inn.trial, lambda inn: (inn.do(("paint", "a", "x")), inn.faces(), inn.undo() is None)),
           (Inn.would, ("watch", ("left",)))]
OF_GATES = [(gate_rows,), (lambda piece, rows: is_rows(rows), {("x",): ["p"], (): []}),
            (lambda piece, rows: told_piece(rows), {("x",): ["q", "p"][::-1], (): []})]

a_ring, a_row, a_tree = house_of(RING), house_of(ROW), house_of(TREE)
EACH = [(a_ring, *case) for case in CALLS] + [(a_row, *case) for case in WITHOUT_RINGS]
EACH += [(a_tree, *case) for case in OF_TREES] + [(a_tower, *case) for case in OF_TOWERS]
EACH += [(a_piece, *case) for case in OF_PIECES] + [(a_tree, *case) for case in OF_LOOKS + OF_LOOKERS]
EACH += [(a_gate, *case) for case in OF_GATES] + [(an_inn, *case) for case in OF_INNS]

# Pairs of rows that a function is asked in turns.
TURNS = [
    (last_lots, (ENDS, STUCK), (ENDS, {**NONE, "a": "x", "d": "y"})),
    (goes_with, (ENDS, PARTED), (ENDS, GOES)),
    (walk_for, (ENDS, OTHER), (ENDS, GOES)),
    (some_last, (STUCK,), ({**NONE, "c": "x"},)),
    (in_two, (STUCK,), (PARTED,)),
    (last_among, (STUCK, {"x": ["a"]}), (STUCK, {"x": ["c"]})),
    (last_among, (STUCK, {}), (GOES, {})),
    (last_clash, (STUCK, {"x": []}), (STUCK, {"y": []})),
    (can_stand, (STUCK, {"x": ["a"]}, "x"), (STUCK, {"x": ["c"]}, "x")),
    (can_stand, (STUCK, {}, "x"), (OTHER, {}, "x")),
    (sure_last, (STUCK, {"x": ["a"]}), (GOES, {"x": ["b"]})),
    (fields, (STUCK, ["x"]), (OTHER, ["x"])),
    (joined_fields, (STUCK, {"x": ["a"]}, ["x"]), (STUCK, {"x": ["c"]}, ["x"])),
    (count_last, (STUCK, {}), (OTHER, {})),
    (count_last, (STUCK, {"x": ["a"]}), (STUCK, {"x": []})),
    (last_at, (STUCK, {}, 0), (GOES, {}, 0)),
    (last_number, (OTHER, {}, ENDS), (OTHER, {"y": ["d"]}, ENDS)),
    (stand_chances, (STUCK, {"y": ["d"]}, "x"), (STUCK, {"x": ["c"]}, "x")),
    (left_mean, (STUCK, {"y": ["d"]}, "x"), (GOES, {}, "x")),
    (best_told, (STUCK, {"y": ["d"]}), (STUCK, {"x": ["a"]})),
    (fewest_places, (ENDS, OTHER), (ENDS, GOES)),
    (seen_parts, (STUCK,), (PARTED,)),
    (both_walk, (ENDS, GOES, ENDS, OTHER), (ENDS, OTHER, ENDS, GOES)),
    (begin_rooms, (ENDS, GOES), (ENDS, {**NONE, "a": "x", "d": "y"})),
    (together_walk, (GOES, OTHER), (OTHER, GOES)),
    (count_first, (ENDS, GOES), (ENDS, {**NONE, "a": "x", "d": "y"})),
    (is_first_map, (ENDS, GOES, OTHER), (ENDS, GOES, PARTED)),
    (first_number, (ENDS, GOES, OTHER), (ENDS, GOES, GOES)),
    (kept_walk, (ENDS, GOES, {"x": ["d"]}), (ENDS, GOES, {"x": ["b"]})),
    (kept_paper, (ENDS, GOES, {"x": ["d"]}), (ENDS, GOES, {"x": ["b"]})),
    (surely_came, (ENDS, GOES, "x"), (ENDS, OTHER, "x")),
    (sure_people, (ENDS, GOES, "b"), (ENDS, OTHER, "b")),
    (wiped, (GOES, ["a"], ["x"]), (OTHER, ["a", "b"], [])),
    (is_within, (GUESSES, GOES), ({**GUESSES, "b": ["y"]}, GOES)),
    (filling, (ENDS, GUESSES), (ENDS, NO_FILLING)),
    (filling, (ENDS, GUESSES), (ENDS, {**GUESSES, "c": ["x"]})),
    (filling_paper, (ENDS, NO_FILLING), (ENDS, {**GUESSES, "d": ["x"]})),
    (could_show, (ENDS, GUESSES, "c"), (ENDS, {**GUESSES, "b": ["x"], "d": ["y", "x"], "c": ["x", "w"]}, "c")),
    (narrowed, (ENDS, GUESSES), (ENDS, {**GUESSES, "b": ["y"]})),
    (sure_faces, (ENDS, GUESSES), (ENDS, {**GUESSES, "b": ["y"]})),
    (most_seen, (ENDS, GUESSES), (ENDS, {**GUESSES, "c": [None]})),
    (last_rooms, (ENDS, GUESSES), (ENDS, NO_FILLING)),
    (count_fillings, (ENDS, GUESSES), (ENDS, {**GUESSES, "b": ["y"]})),
    (needless, ({"x": "a"}, {**ALL_X, "d": None}), ({"x": "c"}, {**ALL_X, "d": None})),
    (fewest_told, ({"x": "a"}, {**ALL_X, "d": None}), ({"x": "c"}, {**ALL_X, "d": None})),
    (left_rooms, (ENDS, GOES), (ENDS, {**GOES, "b": None})),
    (walk_in_order, (ENDS, GOES, ["c", "b"]), (ENDS, GOES, ["b", "c"])),
    (ahead_pairs, ({"x": "b"}, {**ALL_X, "d": None}), ({"x": "a"}, {**ALL_X, "d": None})),
    (places_of, ({"x": "b"}, ALL_X, "d"), ({"x": "c"}, ALL_X, "d")),
    (order_with, (ENDS, GOES, [("c", "b")]), (ENDS, GOES, [("b", "c")])),
    (wish_paper, (ENDS, GOES, [("c", "b")]), (ENDS, GOES, [("b", "c"), ("c", "b")])),
    (order_row, (ENDS, GOES, ["c", "b"], ["b", "c"]), (ENDS, GOES, ["b", "c"], ["c", "b"])),
    (count_orders, ({"x": "b"}, ALL_X), (ENDS, GOES)),
    (order_numbered, ({"x": "b"}, ALL_X, 1), ({"x": "d"}, ALL_X, 1)),
    (next_order, (ENDS, GOES, ["b", "c"]), (ENDS, GOES, ["c", "b"])),
    (mean_place, ({"x": "b"}, ALL_X, "d"), ({"x": "c"}, ALL_X, "d")),
    (taken_by, (ENDS, STUCK, ["y", "x"]), (ENDS, GOES, ["x", "y", "x"])),
    (first_left, (ENDS, GOES, ["x"]), (ENDS, GOES, ["y"])),
    (turns_of, WALK, (WALK[0], WALK[1][:2])),
    (fewest_turns, (ENDS, GOES), ({"x": "a"}, ALL_X)),
    (walk_in_turns, (ENDS, GOES), (ENDS, OTHER)),
    (first_row, (ENDS, GOES), (ENDS, OTHER)),
    (fewest_steps, (ENDS, GOES), (ENDS, {**GOES, "b": None})),
    (short_walk, (ENDS, GOES), (ENDS, OTHER)),
    (good_changes, (ENDS, GOES), (ENDS, STUCK)),
    (harming_changes, (ENDS, GOES), (ENDS, PARTED)),
    (with_person, (ENDS, GOES, "z", "f"), (ENDS, GOES, "w", "e")),
    (moved_to, (ENDS, GOES, "x"), (ENDS, GOES, "y")),
    (row_between, (ENDS, GOES, OTHER), (ENDS, OTHER, GOES)),
    (is_row, (ENDS, [GOES]), (ENDS, [PARTED])),
    (fewest_changed, (ENDS, PARTED), (ENDS, GOES)),
    (nearest_maps, (ENDS, PARTED), (ENDS, STUCK)),
    (needed_doors, (ENDS, GOES), (ENDS, {**GOES, "b": None})),
    (mending_doors, (ENDS, {**GOES, "f": "x"}), (ENDS, {**GOES, "e": "y"})),
    (built_doors, (ENDS, {**GOES, "f": "x"}), (ENDS, {**GOES, "e": "y"})),
    (lets, (CLAIMS,), (CLAIMS[:2],)),
    (fewest_of, (CLAIMS,), (CLAIMS[2:],)),
    (count_maps, (ENDS,), ({"y": "d", "x": "f"},)),
    (maps_by_seen, (ENDS,), ({"x": "a"},)),
    (shown_chances, (ENDS, "b"), ({"y": "d", "x": "b"}, "b")),
    (mean_rooms, (ENDS,), ({"y": "d", "x": "f"},)),
    (one_lot_chance, (ENDS,), ({"y": "d", "x": "f"},)),
    (map_numbered, (ENDS, 5), ({"y": "a", "x": "d"}, 5)),
    (map_number, (ENDS, GOES), (ENDS, OTHER)),
    (count_walks, (WALK[0], 3), ({"y": "b"}, 3)),
    (count_walks_to, (WALK[0], 4, ENDS), (WALK[0], 4, {"y": "c", "x": "a"})),
    (never_chance, (WALK[0], 3, "d"), ({"y": "d", "x": "a"}, 3, "d")),
    (mean_seen, (WALK[0], 3), ({"y": "a", "x": "a"}, 3)),
    (face_chances, (WALK[0], 3, "b"), ({"y": "b", "x": "a"}, 3, "b")),
    (left_chances, (WALK[0], 3, "b"), ({"y": "b", "x": "a"}, 3, "b")),
    (cover_counts, ("b", 3), ("f", 3)),
    (shy_walk, (ENDS, GOES, {"x": ["d"]}), (ENDS, GOES, {"x": ["b"]})),
    (shy_why, (ENDS, STUCK, {"x": ["d"]}), (ENDS, STUCK, {"y": ["a", "c"]})),
    (must_rooms, (ENDS, GOES, "x"), (ENDS, OTHER, "x")),
    (could_rooms, (ENDS, GOES, "x"), (ENDS, {**GOES, "b": None}, "x")),
    (came_to, (ENDS, GOES), ({"x": "b", "y": "c"}, {**STUCK, "a": "y", "b": "x", "c": "y", "d": "x"})),
    (needed_people, (ENDS, STUCK, "b"), (ENDS, GOES, "b")),
    (joined_at, (ENDS, STUCK, "x", "y"), ({"x": "a", "y": "c"}, {**NONE, "b": "x"}, "x", "y")),
    (joinings, (ENDS, STUCK), ({"x": "a", "y": "c"}, {**NONE, "b": "x"})),
    (claims_can_be, (ENDS, GOES, [("x", "d")]), (ENDS, GOES, [("x", "b")])),
    (claims_clash, (ENDS, GOES, [("x", "d")]), (ENDS, GOES, [("x", "d"), ("x", "b")])),
    (most_claims, (ENDS, GOES, [("x", "d")]), (ENDS, GOES, [("x", "d"), ("y", "a")])),
]
OTHER_UP = {**UP, "f": "y", "e": "x"}
TURNS = [(a_ring, *case) for case in TURNS] + [
    (a_tree, through_at, ("a", "a", 1), ("a", "b", 0)),
    (a_tree, through_number, (list("abcdcbaefea"),), (list("aefeabcdcba"),)),
    (a_tower, is_tower_walk, DOWN, (DOWN[0], [("x", "a"), ("x", "c")])),
    (a_tower, tower_stands, DOWN, (DOWN[0], DOWN[1][:1])),
    (a_tower, tower_faces, DOWN, (DOWN[0], DOWN[1][:3])),
    (a_tower, tower_taken, (WITHIN, UP), (WITHIN, NOT_UP)),
    (a_tower, floors_at_last, (WITHIN, UP), (WITHIN, {**UP, "f": None})),
    (a_tower, tower_walk, (WITHIN, UP), (WITHIN, OTHER_UP)),
    (a_tower, tower_why, (WITHIN, UP), (WITHIN, NOT_UP)),
    (a_tower, tower_begins, (WITHIN, UP), (WITHIN, OTHER_UP)),
    (a_tower, needless_chutes, (WITHIN, UP), (WITHIN, NOT_UP)),
    (a_tower, sure_floors, (WITHIN, UP, "x"), (WITHIN, UP, "y")),
    (a_piece, is_given, ({"a": ["x"]},), ({"a": ["x", "x"]},)),
    (a_piece, seen_at, ({"a": ["x"]},), ({"a": ["y"], "d": ["y"]},)),
    (a_piece, is_whole, ({"a": ["x", "y"]},), ({"a": ["x"]},)),
    (a_tree, maps_left, (ENDS, {"b": "x"}), (ENDS, {"b": "y"})),
    (a_tree, settled, (ENDS, {"b": "x"}), (ENDS, {"b": "y"})),
    (a_tree, fewest_looks, (ENDS, {}), (ENDS, {"b": "y", "e": "x"})),
    (a_tree, best_look, (ENDS, {}), (ENDS, {"b": "y", "e": "x"})),
    (a_piece, alike_pieces, (a_piece(),), (OTHER_PIECE,)),
    (a_piece, parting_house, (a_piece(),), (OTHER_PIECE,)),
    (a_piece, handed, (FAR_PIECE, [("d", "n")], {}), (FAR_PIECE, [("d", "n")], {"f": ["w"]})),
    (a_piece, joined_pieces, (FAR_PIECE, [("d", "n")]), (FAR_PIECE, [("d", "m")])),
]


def ordered(thing):
    """A thing with the order of its dicts, at every depth."""
    if isinstance(thing, dict):
        return [(key, ordered(thing[key])) for key in thing]
    if isinstance(thing, (list, tuple)):
        return [type(thing), *[ordered(part) for part in thing]]
    return thing


def spoil(told):
    """Changes all lists and dicts within what was told."""
    for part in list(told.values()) if isinstance(told, dict) else told if isinstance(told, (list, tuple)) else []:
        spoil(part)
    if isinstance(told, (list, dict)):
        told.clear()
    if isinstance(told, list):
        told.append("spoilt")


def change(one, other):
    """Changes a dict or list in place so that it is as another, inner ones too where both have them."""
    if isinstance(one, dict):
        for key in [key for key in one if key not in other]:
            del one[key]
        for key in other:
            if isinstance(one.get(key), list):
                one[key][:] = other[key]
            else:
                one[key] = copy.deepcopy(other[key])
    else:
        one[:] = other


# Functions that stand behind others in EACH, or are asked of no house, with what they are asked.
OTHERS = [
    (told_house, ROOMS, lambda claim: True),
    (beat_asker, ROOMS[:4], lambda answers: ({"a": "d"}, dict.fromkeys(ROOMS[:4], "a")), 3),
    (fewest_house, ROOMS, CLAIMS),
    (is_rows, {(): [], ("x",): ["p"]}),
    (told_piece, {(): [], ("x",): ["p"]}),
    (read_inn, "room a\n"),
    (House, ROOMS, RING),
    (Tower, a_tower().floors(), ["a", "c", "f"], [(2, "c")]),
    (Piece, House(ROOMS, ROW), ["a"], ENDS, GOES),
    (Inn, "a"),
    (Inn.do, an_inn(), ("build", "z", "a")),
    (Inn.at, an_inn(), 3),
]


class TestByNames(plain.Checks):
    def test_by_names(self):
        for call, *args in [(call, make(), *args) for make, call, *args in EACH] + OTHERS:
            with self.subTest(call.__name__):
                names = [name for name in inspect.signature(call).parameters if name != "self"]
                if len(names) < len(args):
                    told = getattr(copy.deepcopy(args[0]), call.__name__)(**dict(zip(names, args[1:])))
                else:
                    told = call(**dict(zip(reversed(names), reversed(args))))
                self.assertEqual(told, call(*args))

    def test_each_function_is_called(self):
        called = {call for _, call, *_ in EACH} | {call for call, *_ in OTHERS}
        for module, text in test_errors.FUNCTIONS.items():
            for name, _ in test_errors.listed(text):
                function = getattr(importlib.import_module("lastfaces." + module), name)
                self.assertIn(function, called)


class TestEverywhere(plain.Checks):
    def test_told_and_passed(self):
        for make, call, *args in EACH:
            with self.subTest(call.__name__):
                subject = make()
                passed = copy.deepcopy(args)
                told = call(subject, *passed)
                self.ascends(told)
                self.assertEqual(ordered(passed), ordered(args))
                kept = copy.deepcopy(told)
                spoil(told)
                self.assertEqual(ordered(passed), ordered(args))
                again = call(subject, *passed)
                self.assertEqual(ordered(again), ordered(kept))
                self.assertEqual(subject, make())

    def test_equal_arguments(self):
        for make, call, *args in EACH:
            with self.subTest(call.__name__):
                told = call(make(), *args)
                lists, tuples = plain.both_kinds(args)
                again = make(True)
                self.assertEqual(again, make())
                for other in [lists, tuples, [self.turned_dicts(part) for part in args]]:
                    self.assertEqual(ordered(call(again, *other)), ordered(told))

    def turned_dicts(self, part):
        if isinstance(part, dict):
            return {key: self.turned_dicts(part[key]) for key in reversed(list(part))}
        return part

    def test_in_turns(self):
        for make, call, one, other in TURNS:
            with self.subTest(call.__name__):
                subject = make()
                fresh = [call(make(), *args) for args in (one, other)]
                self.assertNotEqual(*fresh)
                for _ in range(2):
                    for args, wanted in zip((one, other), fresh):
                        self.assertEqual(ordered(call(subject, *args)), ordered(wanted))

    def test_changed_in_place(self):
        for make, call, one, other in TURNS:
            with self.subTest(call.__name__):
                subject = make()
                passed = [copy.deepcopy(part) for part in one]
                self.assertEqual(call(subject, *passed), call(make(), *one))
                for now in (other, one):
                    for index, part in enumerate(passed):
                        if isinstance(part, (dict, list)):
                            change(part, now[index])
                        else:
                            passed[index] = now[index]
                    self.assertEqual(call(subject, *passed), call(make(), *now))

    def test_turns_between_houses(self):
        more = [(goes_with, ENDS, GOES), (count_last, STUCK, {}), (surely_came, ENDS, GOES, "x"),
                (narrowed, ENDS, GUESSES), (count_fillings, ENDS, GUESSES), (taken_by, {"x": "b"}, ALL_X, ["x"])]
        for call, *args in WITHOUT_RINGS[:2] + more:
            told = [call(House(ROOMS, ROW), *args), call(House(ROOMS, ROW[:3]), *args)]
            houses = [House(ROOMS, ROW), House(ROOMS, ROW[:3])]
            for _ in range(2):
                self.assertEqual([call(house, *args) for house in houses], told)

    def test_what_was_told_may_be_passed_on(self):
        house = House(ROOMS, RING)
        placing = some_last(house, STUCK)
        self.assertEqual(last_number(house, STUCK, {}, placing), last_number(house, STUCK, {}, dict(placing)))
        clash = last_clash(house, STUCK, {"x": []})
        self.assertEqual(clash, ["x"])
        self.assertEqual(joined_fields(house, STUCK, {"x": []}, clash), [])
        start, steps = together_walk(house, GOES, OTHER)
        self.assertEqual(last_faces(house, start, steps), OTHER)
        self.assertEqual(first_faces(house, start, steps), GOES)
        paper = kept_paper(house, ENDS, GOES, {"x": ["d", "b"]})
        self.assertIs(is_kept_paper(house, ENDS, GOES, {"x": ["d", "b"]}, paper), True)
        self.assertEqual(first_number(house, ENDS, GOES, first_at(house, ENDS, GOES, 5)), 5)
        kept = {person: parts(house, rooms)[0] for person, rooms in begin_rooms(house, ENDS, GOES).items()}
        self.assertIs(is_kept(house, kept), True)

    def test_what_was_told_of_guesses_and_orders_may_be_passed_on(self):
        house = House(ROOMS, RING)
        told = narrowed(house, ENDS, GUESSES)
        self.assertIs(is_guesses(house, told), True)
        self.assertEqual(count_fillings(house, ENDS, told), count_fillings(house, ENDS, GUESSES))
        self.assertIs(goes_with(house, ENDS, fullest(house, ENDS, told)), True)
        self.assertIs(tells_enough(house, ENDS, GOES, fewest_told(house, ENDS, GOES)), True)
        self.assertIs(is_within(house, wiped(house, GOES, ["b"], ["x"]), GOES), True)
        order = order_numbered(house, ENDS, GOES, 0)
        row = order_row(house, ENDS, GOES, order, next_order(house, ENDS, GOES, order))
        self.assertEqual([order_number(house, ENDS, GOES, told) for told in row], [0, 1])
        self.assertEqual(order_of(house, *walk_in_order(house, ENDS, GOES, row[1])), row[1])
        paper = wish_paper(house, ENDS, GOES, [("b", "b")])
        self.assertIs(is_wish_paper(house, ENDS, GOES, [("b", "b")], paper), True)
        self.assertIsNotNone(order_with(house, ENDS, GOES, ahead_pairs(house, ENDS, GOES)))

    def test_what_was_told_of_turns_and_towers_may_be_passed_on(self):
        house = House(ROOMS, RING)
        self.assertIsNone(first_left(house, ENDS, GOES, first_row(house, ENDS, GOES)))
        self.assertEqual(turns_of(house, *walk_in_turns(house, ENDS, GOES)), first_row(house, ENDS, GOES)[::-1])
        self.assertEqual(last_faces(house, *short_walk(house, ENDS, GOES)), GOES)
        tree = a_tree()
        self.assertEqual(through_number(tree, through_at(tree, "a", "a", 1)), 1)
        tower = a_tower()
        self.assertEqual(tower_faces(tower, *tower_walk(tower, WITHIN, UP)), UP)
        paper = tower_why(tower, WITHIN, NOT_UP)
        self.assertIs(is_tower_why(tower, WITHIN, NOT_UP, paper), True)
        self.assertEqual(Tower(tower.floors(), tower.landings(), tower.chutes()), tower)
        piece = a_piece()
        self.assertEqual(Piece(piece.house(), piece.gates(), piece.placing(), piece.faces()), piece)
        told = {gate: people for gate, people in seen_at(piece, {"d": ["y"]}).items() if people}
        self.assertIs(is_given(piece, told), True)
        self.assertIs(is_map(whole_house(tower), tower_faces(tower, *DOWN)), True)

    def test_what_was_told_of_pieces_and_houses_may_be_passed_on(self):
        piece, house = a_piece(), house_of(RING)()
        self.assertIs(is_parting(piece, OTHER_PIECE, parting_house(piece, OTHER_PIECE)), True)
        self.assertIs(is_placing(*set_in(piece, parting_house(piece, OTHER_PIECE))[:2]), True)
        joined = joined_pieces(piece, FAR_PIECE, [("d", "n")])
        given = {gate: people for gate, people in seen_at(joined, {}).items() if people}
        one, other = handed(piece, FAR_PIECE, [("d", "n")], given)
        self.assertEqual((is_given(piece, one), is_given(FAR_PIECE, other)), (True, True))
        self.assertEqual(gate_rows(told_piece(gate_rows(a_gate()))), gate_rows(a_gate()))
        self.assertIs(is_row(house, ENDS, row_between(house, ENDS, GOES, OTHER)), True)
        claim = parting_claim(house, House(ROOMS, ROW))
        self.assertEqual(lets(house, [claim]), [True])
        answers, one, other = beat_asker(ROOMS[:4], lambda told: ({"a": "d"}, dict.fromkeys(ROOMS[:4], "a")), 4)
        self.assertEqual(lets(one, [told for told, _ in answers]), [truth for _, truth in answers])
        self.assertEqual(fewest_looks(a_tree(), ENDS, settled(a_tree(), ENDS, {})), fewest_looks(a_tree(), ENDS, {}))

    def test_turns_between_towers_and_pieces(self):
        towers = [a_tower(), Tower(a_tower().floors(), ["b", "d", "e"], a_tower().chutes())]
        pieces = [a_piece(), Piece(house_of(ROW)(), ["a"], {"p": "b"}, {**NONE, "b": "p"})]
        for subjects, cases in [(towers, OF_TOWERS), (pieces, [(outside_names,), (seen_at, {}), (never_whole,)])]:
            for call, *args in cases:
                if call not in (whole_house, tower_why, tower_stands, tower_faces):
                    told = [call(subject, *args) for subject in subjects]
                    for _ in range(2):
                        self.assertEqual([call(subject, *args) for subject in subjects], told)


if __name__ == "__main__":
    unittest.main()
