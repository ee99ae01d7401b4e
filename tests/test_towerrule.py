"""Points [69] to [73], and what [74] says of them."""

import itertools
import random
import unittest

import plain
import plaintowers
from lastfaces import errors
from lastfaces.chutes import needless_chutes, sure_floors, tower_begins
from lastfaces.houses import House
from lastfaces.therule import goes_with, is_why
from lastfaces.towerrule import floors_at_last, is_tower_why, tower_taken, tower_walk, tower_why
from lastfaces.towers import Tower, whole_house
from lastfaces.towerwalks import tower_faces, tower_stands

T = Tower([House(["a", "b"], [("a", "b")]), House(["c", "d"], [("c", "d")]), House(["e"], [])], ["a", "c", "e"],
          [(1, "b"), (2, "a"), (2, "d")])
P = {"x": "a", "y": "d"}
F = {"a": "x", "b": "x", "c": "x", "d": "y", "e": "x"}
CALLS = [tower_taken, floors_at_last, tower_walk, tower_why, tower_begins, needless_chutes]


def cases(towers, people, most, chance):
    """Towers, placings and maps: such as walks have, and others, of each tower and placing so many at most."""
    for tower in towers:
        rooms = plaintowers.rooms_of(tower)
        if len(people) <= len(rooms):
            ends = plaintowers.tower_ends(tower, people)
            walked = sorted(ends, key=str)
            for where, last in chance.sample(walked, min(most, len(walked))):
                yield tower, ends, dict(zip(people, where)), dict(zip(rooms, last))
            every = plain.maps(rooms, [None, *people, "w"])
            for faces in chance.sample(every, min(most, len(every))):
                placing = dict(zip(people, chance.sample(rooms, len(people))))
                if chance.random() < 0.9:
                    faces = {**faces, **{room: person for person, room in placing.items()}}
                yield tower, ends, placing, faces


def all_cases(seed):
    chance = random.Random(seed)
    yield from cases(plaintowers.small_towers(9, seed), [], 3, chance)
    yield from cases(plaintowers.small_towers(45, seed), ["x"], 12, chance)
    yield from cases(plaintowers.small_towers(63, seed), ["y", "x"], 14, chance)
    yield from cases(plaintowers.small_towers(18, seed), ["y", "z", "x"], 10, chance)
    larger = plaintowers.small_towers(8, seed, ((1, 2, 2), (2, 1, 2), (1, 1, 1, 1), (2, 2, 1)))
    yield from cases(larger, ["y", "x"], 25, chance)


class TestExample(plain.Checks):
    def test_figures(self):
        self.assertEqual(floors_at_last(T, P, F), {"x": 2, "y": 1})
        self.assertEqual(tower_begins(T, P, F), {"x": ["e"], "y": ["c", "d", "e"]})
        self.assertEqual(needless_chutes(T, P, F), [(2, "a")])
        self.assertEqual(sure_floors(T, P, F, "y"), [1])
        self.assertEqual(tower_taken(T, P, F), ["a", "b", "c", "d", "e"])
        other = {**F, "b": None, "e": "y"}
        self.assertEqual(tower_why(T, P, other), ("floors", ["a", "d", "e"], {"x": 0, "y": 2}))


class TestRule(plain.Checks):
    def test_all_walks(self):
        for tower, ends, placing, faces in all_cases(1):
            rooms = plaintowers.rooms_of(tower)
            goes = (tuple(placing.values()), plain.row_of(faces, rooms)) in ends
            self.judge(tower, placing, faces, goes)

    def judge(self, tower, placing, faces, goes):
        made = plaintowers.made(tower)
        taken, floors = plaintowers.gone_up(tower, placing, faces, min)
        # Whatever is done first, at last the same rooms are taken in, and people are on the same floors.
        chance = random.Random(5)
        for pick in (max, chance.choice, lambda told: told[-1]):
            self.assertEqual(plaintowers.gone_up(tower, placing, faces, pick), (taken, floors))
        self.assertEqual(tower_taken(made, placing, plain.other_order(faces)), taken)
        self.assertEqual(floors_at_last(made, plain.other_order(placing), faces), floors)
        amiss = [person for person in sorted(placing) if faces[placing[person]] != person]
        out = [room for room in faces if faces[room] and room not in taken]
        self.assertIs(goes, not amiss and not out)
        wanted = None if goes else ("room", amiss[0]) if amiss else ("floors", taken, floors)
        why = tower_why(made, plain.other_order(placing), faces)
        self.assertEqual(why, wanted)
        self.ascends([why, floors_at_last(made, placing, faces)])
        walk = tower_walk(made, placing, faces)
        self.assertIs(walk is not None, goes)
        if goes:
            self.judge_tower_walk(tower, walk, placing, faces)
            self.assertEqual(tower_stands(made, *walk), placing)
            self.assertEqual(tower_faces(made, *walk), faces)
        else:
            self.assertIs(is_tower_why(made, placing, faces, why), True)

    def judge_tower_walk(self, tower, walk, placing, faces):
        start, steps = walk
        self.assertEqual((type(walk), type(start), type(steps)), (tuple, dict, list))
        self.assertEqual(list(start), sorted(placing))
        self.assertTrue(all(type(step) is tuple for step in steps))
        times = plain.gone_through(start, steps)
        for (person, room), where in zip(steps, times):
            self.assertIn(room, plaintowers.down_from(tower, where[person]))
        self.assertEqual(times[-1], placing)
        self.assertEqual(plain.plain_faces(list(faces), times), faces)

    def test_one_floor(self):
        """A tower of one floor is as its house."""
        for rooms, doors in plain.small_houses(3):
            house = House(rooms, doors)
            tower = Tower([house], rooms[:1], [])
            for placing in plain.placings(rooms, ["y", "x"][:len(rooms)]):
                for faces in plain.maps(rooms, [None, "x", "y"]):
                    self.assertIs(tower_walk(tower, placing, faces) is not None, goes_with(house, placing, faces))
                    taken = sorted(plain.plain_closure(doors, placing, faces))
                    self.assertEqual(tower_taken(tower, placing, faces), taken)

    def test_more_doors_and_chutes(self):
        """A door or a chute more leaves what goes."""
        chance = random.Random(6)
        for tower, _, placing, faces in all_cases(2):
            floors, landings, chutes = tower
            if tower_why(plaintowers.made(tower), placing, faces) is None:
                every = [(floor, room) for floor in range(len(floors)) for rooms, _ in floors[:floor] for room in rooms]
                more = [chute for chute in every if chute not in chutes]
                for chute in more:
                    self.assertIsNone(tower_why(plaintowers.made((floors, landings, chutes + [chute])), placing, faces))
                for index, (rooms, doors) in enumerate(floors):
                    every = list(itertools.combinations(sorted(rooms), 2))
                    fuller = floors[:index] + [(rooms, every)] + floors[index + 1:]
                    self.assertIsNone(tower_why(plaintowers.made((fuller, landings, chutes)), placing, faces))

    def test_room_papers(self):
        self.assertEqual(tower_why(T, P, {**F, "d": None}), ("room", "y"))
        self.assertEqual(tower_why(T, P, {**F, "d": "x", "a": "y"}), ("room", "x"))
        # The placing's rooms are taken in, whatever they show.
        self.assertEqual(tower_taken(T, P, {**F, "d": None, "e": None}), ["a", "b", "c", "d"])
        self.assertEqual(tower_taken(T, {"x": "a"}, dict.fromkeys("abcde")), ["a"])

    def test_landing_passed(self):
        # A person comes through a landing that another one took in, and only then.
        tower = Tower([House(["a"], []), House(["b"], []), House(["c"], [])], ["a", "b", "c"], [(1, "a"), (2, "b")])
        self.assertEqual(floors_at_last(tower, {"x": "a", "y": "b"}, {"a": "x", "b": "y", "c": "x"}), {"x": 2, "y": 1})
        self.assertEqual(tower_why(tower, {"x": "a"}, {"a": "x", "b": None, "c": "x"}), ("floors", ["a"], {"x": 0}))
        # Who would have to come down again does not go.
        self.assertEqual(tower_why(tower, {"x": "b"}, {"a": "x", "b": "x", "c": "x"}), ("floors", ["b"], {"x": 1}))


class TestPapers(plain.Checks):
    def test_all_papers(self):
        """All rooms and floors that could be a paper: there is one just if there is no walk."""
        chance = random.Random(7)
        count = 0
        for tower, ends, placing, faces in all_cases(3):
            if len(faces) <= 4 and chance.random() < 0.25:
                rooms = plaintowers.rooms_of(tower)
                goes = (tuple(placing.values()), plain.row_of(faces, rooms)) in ends
                count += not goes
                self.judge(tower, placing, faces, goes)
        self.assertGreater(count, 60)

    def judge(self, tower, placing, faces, goes):
        made = plaintowers.made(tower)
        found = False
        for some in plaintowers.all_lists(list(faces)):
            for chosen in itertools.product(range(len(tower[0])), repeat=len(placing)):
                floors = dict(zip(placing, chosen))
                wanted = plaintowers.is_paper(tower, placing, faces, some, floors)
                found = found or wanted
                for told in [("floors", some[::-1], floors), ["floors", tuple(some), plain.other_order(floors)]]:
                    self.assertIs(is_tower_why(made, placing, faces, told), wanted)
        amiss = [person for person in placing if faces[placing[person]] != person]
        for person in ["x", "y", "z", "w"]:
            for told in plain.both_kinds(("room", person)):
                self.assertIs(is_tower_why(made, placing, faces, told), person in amiss)
        self.assertIs(bool(amiss) or found, not goes)

    def test_any_objects(self):
        faces = {**F, "b": None, "e": "y"}
        some, floors = ["e", "a", "d"], {"y": 2, "x": 0}
        self.assertIs(is_tower_why(T, P, faces, ("floors", some, floors)), True)
        wrong = [("floors", some), ("floors", some, floors, floors), ("floors", some + ["a"], floors), ("room", "x"),
                 ("floors", "ead", floors), ("floors", {"a": 1, "d": 1, "e": 1}, floors), ("rooms", some, floors),
                 ("floors", some, [("x", 0), ("y", 2)]), ("room", "y", some)]
        for told in [{**floors, "w": 0}, {"y": 2}, {"x": 0, "y": 3}, {"x": 0, "y": -1}, {**floors, "x": False},
                     {"x": True, "y": 2}, {"x": 0, "y": "2"}, {0: 0, 1: 2}, {"a": 0, "d": 2}]:
            wrong.append(("floors", some, told))
        for thing in wrong + plain.odd_things():
            self.assertIs(is_tower_why(T, P, faces, thing), False)
        for thing in plain.odd_things():
            for paper in [(thing, some, floors), ("floors", thing, floors), ("floors", some, thing), ("room", thing),
                          ("floors", some, floors, thing), ("floors", [*some, thing], floors), (thing, "x"), (thing,),
                          ("floors", [thing, "a", "d"], floors)]:
                self.assertIs(is_tower_why(T, P, faces, paper), False)
            if thing != 0 or thing is False:
                self.assertIs(is_tower_why(T, P, faces, ("floors", some, {"y": 2, "x": thing})), False)
            if isinstance(thing, (int, str, type(None))):
                self.assertIs(is_tower_why(T, P, faces, ("floors", some, {"y": 2, thing: 0})), False)

    def test_kinds(self):
        amiss = {**F, "d": "x"}
        self.assertIs(is_tower_why(T, P, amiss, ["room", "y"]), True)
        for thing in plain.odd_things() + ["floors", "rooms", "x", "y"]:
            self.assertIs(is_tower_why(T, P, amiss, (thing, "y")), False)
            self.assertIs(is_tower_why(T, P, amiss, ("room", "y", thing)), False)

    def test_as_of_a_house(self):
        """In a tower of one floor rooms alone are a paper where lots of a house would be."""
        row = House(["a", "b", "c"], [("a", "b"), ("b", "c")])
        tower = Tower([row], ["b"], [])
        faces = {"a": "x", "b": None, "c": "x"}
        self.assertEqual(tower_why(tower, {"x": "a"}, faces), ("floors", ["a"], {"x": 0}))
        self.assertIs(is_why(row, {"x": "a"}, faces, ("lots", [(["x"], ["a"])])), True)


class TestBegins(plain.Checks):
    def test_all_walks(self):
        for tower, ends, placing, faces in all_cases(4):
            made = plaintowers.made(tower)
            rooms = plaintowers.rooms_of(tower)
            starts = ends.get((tuple(placing.values()), plain.row_of(faces, rooms)))
            told = tower_begins(made, plain.other_order(placing), faces)
            if starts is None:
                self.assertIsNone(told)
                self.assertIsNone(needless_chutes(made, placing, faces))
                continue
            wanted = {person: sorted({start[index] for start in starts}) for index, person in enumerate(placing)}
            self.assertEqual(told, wanted)
            self.assertEqual(list(told), sorted(placing))
            # All choices go together.
            self.assertEqual(starts, set(itertools.product(*[wanted[person] for person in placing])))


class TestChutes(plain.Checks):
    def test_needless(self):
        chance = random.Random(8)
        for tower, ends, placing, faces in all_cases(9):
            rooms = plaintowers.rooms_of(tower)
            end = (tuple(placing.values()), plain.row_of(faces, rooms))
            if end in ends and len(rooms) <= 4 and chance.random() < 0.4:
                floors, landings, chutes = tower
                wanted = []
                for chute in sorted(chutes):
                    less = [kept for kept in chutes if kept != chute]
                    if end in plaintowers.tower_ends((floors, landings, less), list(placing)):
                        wanted.append(chute)
                self.assertEqual(needless_chutes(plaintowers.made(tower), placing, faces), wanted)

    def test_sure_floors(self):
        chance = random.Random(10)
        for tower, ends, placing, faces in all_cases(11):
            rooms = plaintowers.rooms_of(tower)
            made = plaintowers.made(tower)
            end = (tuple(placing.values()), plain.row_of(faces, rooms))
            for person in placing:
                if end not in ends:
                    self.assertIsNone(sure_floors(made, placing, faces, person))
                elif chance.random() < 0.15 and len(tower[0]) > 1:
                    wanted = []
                    for index, (own, _) in enumerate(tower[0]):
                        if end not in plaintowers.tower_ends(tower, list(placing), {person: own}):
                            wanted.append(index)
                    self.assertEqual(sure_floors(made, plain.other_order(placing), faces, person), wanted)

    def test_passed_floor(self):
        tower = Tower([House(["a"], []), House(["b"], []), House(["c"], [])], ["a", "b", "c"],
                      [(1, "a"), (2, "b"), (2, "a")])
        placing, faces = {"x": "a", "y": "b"}, {"a": "x", "b": "y", "c": "x"}
        self.assertEqual(sure_floors(tower, placing, faces, "x"), [0, 2])
        self.assertEqual(needless_chutes(tower, placing, faces), [(1, "a"), (2, "a"), (2, "b")])
        less = Tower(tower.floors(), tower.landings(), [(1, "a"), (2, "b")])
        self.assertEqual(sure_floors(less, placing, faces, "x"), [0, 1, 2])
        self.assertEqual(sure_floors(less, placing, faces, "y"), [1])
        self.assertEqual(needless_chutes(less, placing, faces), [])

    def test_not_placed(self):
        for thing in plain.odd_things() + ["z", "a"]:
            self.raises((errors.NotPlaced, thing), sure_floors, T, P, F, thing)
            # Who is asked for comes ahead of whether there are walks.
            self.raises((errors.NotPlaced, thing), sure_floors, T, P, {**F, "e": "w"}, thing)
        self.assertIsNone(sure_floors(T, P, {**F, "e": "w"}, "x"))


class TestWrong(plain.Checks):
    def test_errors_in_order(self):
        more = [lambda *told: is_tower_why(*told, None), lambda *told: sure_floors(*told, None)]
        for thing in plain.odd_things():
            for call in CALLS + more:
                if thing != {}:
                    self.raises((errors.BadPlacing, thing), call, T, thing, thing)
                self.raises((errors.BadMap, thing), call, T, P, thing)
                self.raises((errors.BadMap, thing), call, T, {}, thing)
        same, less = {"x": "a", "y": "a"}, {"a": "x", "b": None}
        for call in CALLS + more:
            self.raises((errors.BadPlacing, same), call, T, same, F)
            self.raises((errors.BadMap, less), call, T, P, less)

    def test_nobody(self):
        none = dict.fromkeys("abcde")
        self.assertEqual((tower_taken(T, {}, none), floors_at_last(T, {}, none)), ([], {}))
        self.assertEqual(tower_walk(T, {}, none), ({}, []))
        self.assertEqual(tower_begins(T, {}, none), {})
        self.assertEqual(needless_chutes(T, {}, none), T.chutes())
        self.assertEqual(tower_why(T, {}, F), ("floors", [], {}))


class TestLimits(plain.Checks):
    def test_large_towers(self):
        chance = random.Random(12)
        for floors, size, chutes in [(12, 5, 100), (12, 5, 60), (6, 10, 100), (3, 20, 100), (1, 60, 0), (12, 1, 66)]:
            tower = plaintowers.drawn_tower(floors, size, chutes, chance)
            made = plaintowers.made(tower)
            rooms = plaintowers.rooms_of(tower)
            people = [f"p{k:02d}" for k in range(min(20, len(rooms) // 2))]
            low = sorted(rooms)[:len(rooms) // 2]
            placing = dict(zip(people, chance.sample(low, len(people))))
            faces = plaintowers.grown_map(tower, placing, chance)
            taken, at_last = plaintowers.gone_up(tower, placing, faces, min)
            self.assertEqual(tower_taken(made, placing, faces), taken)
            self.assertEqual(floors_at_last(made, placing, faces), at_last)
            self.assertTrue(all(room in taken for room in rooms if faces[room]))
            walk = tower_walk(made, placing, faces)
            TestRule.judge_tower_walk(self, tower, walk, placing, faces)
            begins = tower_begins(made, placing, faces)
            self.assertTrue(all(begins[person] for person in placing))
            needless = needless_chutes(made, placing, faces)
            self.assertLessEqual(set(needless), set(tower[2]))
            self.assertIn(plaintowers.floor_at(tower, placing[people[0]]), sure_floors(made, placing, faces, people[0]))
            wrong = {**faces, [room for room in rooms if room not in placing.values()][-1]: "w"}
            self.assertIs(is_tower_why(made, placing, wrong, tower_why(made, placing, wrong)), True)
            self.assertIsNone(tower_walk(made, placing, wrong))
            self.assertIsNone(needless_chutes(made, placing, wrong))
            self.assertEqual(len(whole_house(made)), len(rooms))


if __name__ == "__main__":
    unittest.main()
