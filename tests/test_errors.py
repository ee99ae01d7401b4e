"""Points [2] and [4], and the interface's rows: names, parameters, where things are defined."""

import importlib
import inspect
import unittest

from lastfaces import errors
from lastfaces.errors import FaceError

ERRORS = """
BadAnswer(thing) BadAround(thing) BadAsker(thing) BadChutes(index) BadClaim(thing) BadClaims(index) BadDeed(thing)
BadDoors(index) BadDues(thing) BadFloors(index) BadGates(index) BadGiven(thing) BadGuesses(thing) BadInn(thing)
BadKeeper(thing) BadKept(thing) BadLandings(index) BadLists(thing) BadLooker(thing) BadMany(many) BadMap(thing)
BadName(thing) BadNames(thing) BadNumber(thing) BadOrder(index) BadPeople(index) BadPerson(thing) BadPiece(thing)
BadPlacing(thing) BadQuestion(thing) BadRooms(index) BadRow(index) BadRows(thing) BadSeen(thing) BadShy(thing)
BadSome(index) BadStart(thing) BadSteps(index) BadText(line) BadTurns(index) BadWishes(index) CanBeTold()
CommonPerson(name) CommonRoom(name) Crowded(room) HasRing() InUse(question) IsDoor(one,other) IsEnough()
IsShown(room) IsWatched(question) LastRoom() NoCount(thing) NoDoor(one,other) NoPerson(thing) NoRoom(thing) NoSteps()
NoTree() NoTruth(thing) NoWalks(why) NoneGoes(people) NoneLeft() NotBeside(room) NotFull(room) NotGoing(thing)
NotLeaf(name) NotLeft(thing) NotOneGate() NotPlaced(thing) NotSeen(room) NotShown(person) NotWatched(question)
Occupied(room) OtherPeople(person) RoomTaken(name) SameRoom(room) ShowsNobody(room) TakenPerson(person)
TakenRoom(room) UnlikeGates() UnlikePeople() UnlikeRooms(room) WouldChange(question)
"""

FUNCTIONS = {
    "houses": "beside(house,room)",
    "ways": "parts(house,some) steps_between(house,one,other) way(house,one,other) round_about(house,some)",
    "walks": "is_walk(house,start,steps) stands(house,start,steps) last_faces(house,start,steps)"
             " first_faces(house,start,steps) turned(house,start,steps)",
    "maps": "is_map(house,thing) shown(house,faces) seen_rooms(house,faces) rooms_of(house,faces,person)"
            " is_placing(house,thing)",
    "otherhouses": "part_of(house,some) built_on(house,name,some) joined_by(one,other,doors) renamed(house,names)"
                   " without_door(house,one,other)",
    "lotsbyrows": "row_fault(house,placing,faces,row) can_take(house,placing,faces,row)"
                  " lots_behind(house,placing,faces,row)",
    "therule": "last_lots(house,placing,faces) left_out(house,placing,faces) round_of(house,placing,faces)"
               " goes_with(house,placing,faces) why_not(house,placing,faces) is_why(house,placing,faces,thing)",
    "builtwalks": "walk_for(house,placing,faces) walk_fault(house,placing,faces,start,steps)",
    "wants": "ring_of_doors(house) wants(house,placing,faces) ring_of_wants(house,placing,faces)",
    "lastrooms": "some_last(house,faces) in_two(house,faces)",
    "lastamong": "last_among(house,faces,lists) last_clash(house,faces,lists) can_stand(house,faces,lists,person)"
                 " sure_last(house,faces,lists)",
    "fields": "fields(house,faces,people) joined_fields(house,faces,lists,people)",
    "lastcounts": "count_last(house,faces,lists) last_at(house,faces,lists,number)"
                  " last_number(house,faces,lists,placing) drawn_last(house,faces,lists,chooser)",
    "toldrooms": "stand_chances(house,faces,lists,person) left_mean(house,faces,lists,person)"
                 " best_told(house,faces,lists) fewest_places(house,placing,faces)",
    "bothmaps": "seen_parts(house,faces) both_walk(house,begins,first,ends,last)"
                " both_fault(house,begins,first,ends,last) begin_rooms(house,placing,faces)"
                " together_walk(house,first,last) together_fault(house,first,last)",
    "firstmaps": "is_first_map(house,placing,faces,thing) count_first(house,placing,faces)"
                 " first_at(house,placing,faces,number) first_number(house,placing,faces,thing)",
    "keptaway": "is_kept(house,thing) kept_walk(house,placing,faces,kept) kept_paper(house,placing,faces,kept)"
                " is_kept_paper(house,placing,faces,kept,thing) surely_came(house,placing,faces,person)"
                " sure_people(house,placing,faces,room)",
    "guesses": "is_guesses(house,thing) wiped(house,faces,some,people) is_within(house,guesses,thing)",
    "fillings": "filling(house,placing,guesses) filling_paper(house,placing,guesses)"
                " could_show(house,placing,guesses,room) narrowed(house,placing,guesses)"
                " sure_faces(house,placing,guesses) most_seen(house,placing,guesses) fullest(house,placing,guesses)"
                " last_rooms(house,placing,guesses) count_fillings(house,placing,guesses)",
    "enough": "follows(house,placing,faces,room) needless(house,placing,faces)"
              " tells_enough(house,placing,faces,some) fewest_told(house,placing,faces)",
    "orders": "left_rooms(house,placing,faces) is_order(house,placing,faces,thing) order_of(house,start,steps)"
              " walk_in_order(house,placing,faces,order)",
    "aheads": "always_ahead(house,placing,faces,room,other) ahead_pairs(house,placing,faces)"
              " leading_rooms(house,placing,faces) ending_rooms(house,placing,faces)"
              " places_of(house,placing,faces,room)",
    "wishes": "order_with(house,placing,faces,wishes) wish_paper(house,placing,faces,wishes)"
              " is_wish_paper(house,placing,faces,wishes,thing)",
    "exchanges": "apart(house,placing,faces,one,other) order_row(house,placing,faces,one,other)",
    "ordercounts": "count_orders(house,placing,faces) order_numbered(house,placing,faces,number)"
                   " order_number(house,placing,faces,order) next_order(house,placing,faces,order)"
                   " ahead_chance(house,placing,faces,room,other) mean_place(house,placing,faces,room)",
    "dues": "order_by(house,placing,faces,dues) due_paper(house,placing,faces,dues)",
    "takings": "taken_by(house,placing,faces,row) first_left(house,placing,faces,row)",
    "turns": "turns_of(house,start,steps) fewest_turns(house,placing,faces) walk_in_turns(house,placing,faces)"
             " first_row(house,placing,faces)",
    "fewsteps": "fewest_steps(house,placing,faces) short_walk(house,placing,faces) spans_wanted(house,placing,faces)",
    "alone": "steps_alone(house,last) steps_through(house,first,last) count_through(house,first,last)"
             " count_alone(house,last)",
    "alonenumbers": "through_at(house,first,last,number) through_number(house,thing)",
    "towers": "whole_house(tower) floor_of(tower,room)",
    "towerwalks": "is_tower_walk(tower,start,steps) tower_stands(tower,start,steps) tower_faces(tower,start,steps)",
    "towerrule": "tower_taken(tower,placing,faces) floors_at_last(tower,placing,faces)"
                 " tower_walk(tower,placing,faces) tower_why(tower,placing,faces)"
                 " is_tower_why(tower,placing,faces,thing)",
    "chutes": "tower_begins(tower,placing,faces) needless_chutes(tower,placing,faces)"
              " sure_floors(tower,placing,faces,person)",
    "pieces": "outside_names(piece) is_given(piece,thing) seen_at(piece,given) is_whole(piece,given)"
              " never_whole(piece)",
    "parting": "alike_pieces(one,other) parting_house(one,other) is_parting(one,other,thing) set_in(piece,around)",
    "joinedpieces": "joined_pieces(one,other,doors) handed(one,other,doors,given)",
    "onegate": "gate_rows(piece) is_rows(thing) told_piece(rows)",
    "changes": "good_changes(house,placing,faces) harming_changes(house,placing,faces)"
               " with_person(house,placing,faces,person,room) moved_to(house,placing,faces,person)",
    "maprows": "row_between(house,placing,one,other) is_row(house,placing,thing)"
               " fewest_changed(house,placing,faces) nearest_maps(house,placing,faces)",
    "doorchanges": "needed_doors(house,placing,faces) mending_doors(house,placing,faces)"
                   " fewest_doors(house,placing,faces) built_doors(house,placing,faces)",
    "partedhouses": "lets(house,claims) parting_claim(one,other) is_parting_claim(one,other,thing)",
    "keepers": "told_house(rooms,keeper) beat_asker(rooms,asker,many) fewest_house(rooms,claims)",
    "looks": "maps_left(house,placing,seen) settled(house,placing,seen) fewest_looks(house,placing,seen)"
             " best_look(house,placing,seen)",
    "lookers": "run_looker(house,placing,faces,looker) beat_looker(house,placing,seen,looker,many)",
    "mapcounts": "count_maps(house,placing) maps_by_seen(house,placing) shown_chances(house,placing,room)"
                 " mean_rooms(house,placing) one_lot_chance(house,placing) map_numbered(house,placing,number)"
                 " map_number(house,placing,faces)",
    "walkcounts": "count_walks(house,start,many) count_walks_to(house,start,many,placing)"
                  " count_walks_with(house,start,many,placing,faces)"
                  " count_first_with(house,start,many,placing,faces) cover_counts(house,room,many)",
    "walkchances": "never_chance(house,start,many,room) mean_seen(house,start,many)"
                   " face_chances(house,start,many,room) left_chances(house,start,many,room)",
    "inntexts": "write_inn(inn) read_inn(text)",
    "shypeople": "shy_walk(house,placing,faces,shy) shy_why(house,placing,faces,shy)"
                 " is_shy_why(house,placing,faces,shy,thing)",
    "mustrooms": "must_rooms(house,placing,faces,person) could_rooms(house,placing,faces,person)"
                 " came_to(house,placing,faces) needed_people(house,placing,faces,room)",
    "joinings": "joined_at(house,placing,faces,one,other) joinings(house,placing,faces)",
    "awayclaims": "claims_can_be(house,placing,faces,claims) claims_clash(house,placing,faces,claims)"
                  " most_claims(house,placing,faces,claims)",
}

# Classes: where they stand, their parameters, and their methods.
CLASSES = [
    ("houses", "House", "rooms doors", "rooms doors __len__ __eq__"),
    ("towers", "Tower", "floors landings chutes", "floors landings chutes __eq__"),
    ("pieces", "Piece", "house gates placing faces", "house gates placing faces __eq__"),
    ("inns", "Inn", "room", "now where faces watched do is_question answer would could_show mending_rooms count undo"
                            " again deeds at copy trial __eq__"),
]


def listed(text):
    """The pairs (name, list of parameters) of a text of calls."""
    calls = [call.rstrip(")").split("(") for call in text.split()]
    return [(name, [part for part in told.split(",") if part]) for name, told in calls]


class TestErrors(unittest.TestCase):
    def test_base(self):
        self.assertEqual(FaceError.__bases__, (ValueError,))
        self.assertIsInstance(FaceError(), ValueError)

    def test_each_error_keeps_what_it_is_made_with(self):
        self.assertEqual(len(listed(ERRORS)), 83)
        for name, params in listed(ERRORS):
            with self.subTest(name):
                error = getattr(errors, name)
                self.assertEqual(error.__bases__, (FaceError,))
                self.assertEqual(error.__module__, "lastfaces.errors")
                self.assertEqual(error.__name__, name)
                things = [[param, {}] for param in params]
                for made in [error(*things), error(**dict(zip(params, things)))]:
                    for param, thing in zip(params, things):
                        self.assertIs(getattr(made, param), thing)

    def test_no_other_errors(self):
        found = [name for name, thing in vars(errors).items() if inspect.isclass(thing)]
        self.assertEqual(sorted(found), sorted([name for name, _ in listed(ERRORS)] + ["FaceError"]))

    def test_raised_and_caught(self):
        for name, params in listed(ERRORS):
            with self.assertRaises(FaceError):
                raise getattr(errors, name)(*params)


class TestInterface(unittest.TestCase):
    def test_functions(self):
        for module, text in FUNCTIONS.items():
            found = importlib.import_module("lastfaces." + module)
            for name, params in listed(text):
                with self.subTest(name):
                    function = vars(found)[name]
                    self.assertTrue(inspect.isfunction(function))
                    self.assertEqual(function.__module__, "lastfaces." + module)
                    self.assertEqual(list(inspect.signature(function).parameters), params)

    def test_classes(self):
        for module, name, params, methods in CLASSES:
            found = vars(importlib.import_module("lastfaces." + module))[name]
            self.assertTrue(inspect.isclass(found))
            self.assertEqual(found.__module__, "lastfaces." + module)
            self.assertEqual(list(inspect.signature(found).parameters), params.split())
            for method in methods.split():
                self.assertIn(method, vars(found))


if __name__ == "__main__":
    unittest.main()
