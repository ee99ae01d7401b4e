"""Points [81] to [84], and what [85] says of them."""

import itertools
import random
import unittest

import plain
from plainpieces import all_given, drawn_pieces, is_never, made, plain_told, plain_within
from lastfaces import errors
from lastfaces.houses import House
from lastfaces.joinedpieces import handed, joined_pieces
from lastfaces.onegate import gate_rows, is_rows, told_piece
from lastfaces.parting import alike_pieces
from lastfaces.pieces import Piece, is_whole, never_whole, outside_names, seen_at

GH = House(["h", "g"], [("g", "h")])
SMALL = Piece(GH, ["g"], {"p": "h"}, {"g": "x", "h": "p"})
LONE = Piece(House(["m"], []), ["m"], {"x": "m"}, {"m": "x"})
TWO = Piece(House(["k", "m", "n"], [("m", "n"), ("n", "k")]), ["m", "k"], {"x": "n"}, {"m": "x", "n": "x", "k": "p"})
BOTH = Piece(GH, ["g", "h"], {"p": "h"}, {"g": "x", "h": "p"})
ROWS = {(): [], ("x",): ["p"], ("y",): [], ("x", "y"): ["p", "q"]}


def other_rooms(case, names):
    """A case with other names of rooms and people."""
    rooms, doors, gates, placing, faces = case
    new = {room: room + "z" for room in rooms}
    return ([new[room] for room in rooms], [(new[a], new[b]) for a, b in doors], [new[gate] for gate in gates],
            {names.get(person, person): new[room] for person, room in placing.items()},
            {new[room]: names.get(face, face) for room, face in faces.items()})


def drawn_joinings(many, seed):
    """Pairs of drawn cases without a common room or person, with doors between gates."""
    chance = random.Random(seed)
    cases = list(drawn_pieces(2 * many, seed))
    for one, other in zip(cases[::2], cases[1::2]):
        other = other_rooms(other, chance.choice([{"p": "x", "x": "p", "q": "y"}, {"p": "r", "q": "s", "x": "p"}]))
        if not set(one[3]) & set(other[3]):
            most = min(len(one[2]), len(other[2]))
            count = chance.randint(0, most)
            yield one, other, list(zip(chance.sample(one[2], count), chance.sample(other[2], count)))


def plain_joined(one, other, doors):
    used = {gate for door in doors for gate in door}
    return (one[0] + other[0], one[1] + other[1] + doors, [gate for gate in one[2] + other[2] if gate not in used],
            {**one[3], **other[3]}, {**one[4], **other[4]})


def plain_handed(one, other, doors, given):
    """What is given to both at last, round by round, by sets of people."""
    now = {gate: frozenset(people) for gate, people in given.items()}
    while True:
        seen = {}
        for case in (one, other):
            part = {gate: sorted(people) for gate, people in now.items() if gate in case[2]}
            seen.update({gate: frozenset(people) for gate, people in plain_told(case, part)[0].items()})
        more = {gate: people | seen[gate] for gate, people in now.items()}
        for a, b in doors + [(b, a) for a, b in doors]:
            if seen[a] and now.get(a) != seen[a]:
                more[b] = more.get(b, frozenset()) | seen[a]
        grown = True
        while grown:
            grown = False
            for a, b in itertools.combinations(list(more), 2):
                if more[a] & more[b] and more[a] != more[b]:
                    more[a] = more[b] = more[a] | more[b]
                    grown = True
        if more == now:
            return tuple({gate: sorted(now[gate]) for gate in sorted(case[2]) if gate in now} for case in (one, other))
        now = more


class TestJoined(plain.Checks):
    def test_plain(self):
        for one, other, doors in drawn_joinings(120, 1):
            for told in (doors, [list(door) for door in doors[::-1]], tuple(doors)):
                joined = joined_pieces(made(one), made(other), told)
                self.assertEqual(joined, made(plain_joined(one, other, doors)))
            self.ascends([joined.placing(), joined.faces()])

    def test_errors_in_order(self):
        for call in [joined_pieces, lambda *told: handed(*told, None)]:
            for thing in plain.odd_things() + [GH]:
                self.raises((errors.BadPiece, thing), call, thing, None, None)
                self.raises((errors.BadPiece, thing), call, SMALL, thing, None)
            crowd = Piece(House(["h", "a", "g"], []), ["a"], {"p": "a"}, {"h": None, "a": "p", "g": None})
            self.raises((errors.CommonRoom, "g"), call, SMALL, crowd, None)
            people = Piece(House(["m", "n", "o"], []), ["m"], {"q": "n", "p": "m", "o": "o"},
                           {"m": "p", "n": "q", "o": "o"})
            more = Piece(House(["a", "b"], []), ["a"], {"q": "a", "p": "b"}, {"a": "q", "b": "p"})
            self.raises((errors.CommonPerson, "p"), call, SMALL, people, None)
            self.raises((errors.CommonPerson, "p"), call, more, people, None)
            for thing in plain.no_lists():
                self.raises((errors.BadDoors, 0), call, BOTH, TWO, thing)
            for thing in plain.no_pairs() + [("m", "g"), ("g", "n"), ("a", "m"), ("g", "g"), ("m", "m")]:
                self.raises((errors.BadDoors, 0), call, BOTH, TWO, [thing, None])
                self.raises((errors.BadDoors, 1), call, BOTH, TWO, [("g", "m"), thing, None])
            for doors in [[("g", "m"), ("g", "m")], [("g", "m"), ("g", "k")], [("g", "m"), ["h", "m"]]]:
                self.raises((errors.BadDoors, 1), call, BOTH, TWO, doors)
            self.raises((errors.BadDoors, 2), call, BOTH, TWO, [("g", "m"), ("h", "k"), ("g", "k")])


class TestHanded(plain.Checks):
    def test_example(self):
        told = handed(SMALL, LONE, [("g", "m")], {})
        self.assertEqual(told, ({"g": ["p", "x"]}, {"m": ["p", "x"]}))
        self.assertIs(type(told), tuple)

    def test_plain(self):
        """Both see at the gates left what the joined piece sees, and are whole just if it is."""
        found = set()
        for one, other, doors in drawn_joinings(150, 2):
            joined = plain_joined(one, other, doors)
            every = all_given(joined[2], ["w", "x", "p"])
            for given in every if len(every) < 60 else every[::7]:
                wanted = plain_handed(one, other, doors, given)
                turned = {gate: given[gate][::-1] for gate in reversed(list(given))}
                told = handed(made(one), made(other), doors, turned)
                self.assertEqual(told, wanted)
                self.ascends(told)
                if not any(person in joined[3] for people in given.values() for person in people):
                    seen, whole = plain_told(joined, given)
                    parts = [plain_told(case, part) for case, part in zip((one, other), told)]
                    both = {**parts[0][0], **parts[1][0]}
                    self.assertEqual({gate: both[gate] for gate in seen}, seen)
                    self.assertEqual(whole, parts[0][1] and parts[1][1])
                    found.add((whole, len(doors), len(given)))
        self.assertLessEqual({(whole, many) for whole in (True, False) for many in range(3)},
                             {(whole, many) for whole, many, _ in found})

    def test_bad_given(self):
        joined = joined_pieces(BOTH, TWO, [("h", "m")])
        self.assertEqual(joined.gates(), ["g", "k"])
        for thing in [*plain.odd_things(), {"h": ["x"]}, {"m": ["x"]}, {"g": []}, {"g": ["x"], "k": ["x", "y"]}]:
            if thing != {}:
                self.raises((errors.BadGiven, thing), handed, BOTH, TWO, [("h", "m")], thing)

    def test_given_as_one_at_gates_of_both(self):
        one = Piece(House(["a", "b"], []), ["a", "b"], {}, {"a": "x", "b": "y"})
        other = Piece(House(["c", "d"], [("c", "d")]), ["c", "d"], {"y": "c"}, {"c": "y", "d": None})
        told = handed(one, other, [("b", "c")], {"d": ("x",), "a": ["x"]})
        self.assertEqual(told, ({"a": ["x"], "b": ["y"]}, {"d": ["x"]}))
        told = handed(one, other, [("b", "c")], {"d": ("y", "x"), "a": ["x", "y"]})
        # At b just what was given there is seen, so that nothing is given at c.
        self.assertEqual(told, ({"a": ["x", "y"], "b": ["x", "y"]}, {"d": ["x", "y"]}))


def plain_rows(case):
    names = sorted({face for face in case[4].values() if face} - set(case[3]))
    rows = {}
    for many in range(len(names) + 1):
        for some in itertools.combinations(names, many):
            seen = plain_told(case, {case[2][0]: [*some, "new"]})[0][case[2][0]]
            rows[some] = [person for person in seen if person in case[3]]
    return rows


def judged_rows(rows, names):
    """Whether dicts from all tuples of names to lists are rows."""
    sets = {key: set(rows[key]) for key in rows}
    if any(set(one) <= set(other) and not sets[one] <= sets[other] for one in rows for other in rows):
        return False
    filled = [key for key in rows if rows[key]]
    return bool(rows[()]) or not filled or any(all(name in key for key in filled) for name in names)


def all_rows(names, people):
    """All dicts from all ascending tuples of names to ascending lists of people."""
    keys = [some for many in range(len(names) + 1) for some in itertools.combinations(names, many)]
    lists = [list(some) for many in range(len(people) + 1) for some in itertools.combinations(people, many)]
    return [dict(zip(keys, chosen)) for chosen in itertools.product(lists, repeat=len(keys))]


class TestGateRows(plain.Checks):
    def test_example(self):
        self.assertEqual(gate_rows(SMALL), {(): [], ("x",): ["p"]})
        self.assertEqual(gate_rows(LONE), {(): ["x"]})

    def test_plain(self):
        for case in drawn_pieces(400, 3):
            if len(case[2]) == 1:
                rows = gate_rows(made(case))
                self.assertEqual(rows, plain_rows(case))
                self.ascends(rows)
                self.assertIs(is_rows(rows), True)

    def test_errors(self):
        for thing in plain.odd_things() + [GH]:
            self.raises((errors.BadPiece, thing), gate_rows, thing)
        for piece in [BOTH, TWO, Piece(GH, [], {}, {"g": None, "h": None})]:
            self.raises((errors.NotOneGate,), gate_rows, piece)

    def test_names_like_new_ones(self):
        case = (["n0", "n1", "n2"], [("n0", "n1"), ("n1", "n2")], ["n1"], {"n1": "n2"},
                {"n0": "n0", "n1": "n2", "n2": "n1"})
        self.assertEqual(gate_rows(made(case)), {(): [], ("n0",): [], ("n0", "n2"): ["n1"], ("n2",): ["n1"]})


class TestIsRows(plain.Checks):
    def test_all(self):
        found = {True: 0, False: 0}
        for names, people in [("", "pq"), ("x", "p"), ("x", "pq"), ("xy", "p"), ("xy", "pq")]:
            for rows in all_rows(names, people):
                wanted = judged_rows(rows, names)
                found[wanted] += 1
                self.assertIs(is_rows(rows), wanted)
                turned = {key: tuple(rows[key]) for key in reversed(list(rows))}
                self.assertIs(is_rows(turned), wanted)
                if not wanted:
                    self.raises((errors.BadRows, rows), told_piece, rows)
        self.assertGreater(min(found.values()), 40)

    def test_wrong(self):
        self.assertIs(is_rows(ROWS), True)
        wrong = [{}, {("x",): []}, {(): [], ("x",): [], ("y",): []}, {(): [], ("x",): ["x"]}, {(): ["p", "p"]},
                 {(): [], ("x",): [], ("y",): [], ("y", "x"): []}, {(): ["q", "p"]}, {(): "p"}, {(): {"p": 1}},
                 {(): [], ("x",): ["p"], ("x", "x"): ["p"]}, {(): None}, {(): [None]}, {(): [["p"]]}, {(): [], "x": []},
                 {(): [], None: []}, {(): [], ("X",): []}, {(): [], (1,): []}, {(): [], (None,): []}, [], [((), [])],
                 {(): [], (("x",),): []}, {(): [], ("x",): ["y"], ("y",): [], ("x", "y"): ["y"]}]
        many = tuple(f"a{k:03d}" for k in range(300))
        wrong += [{(): [], many: []}, {(): [], ("a",): [], many: []}]
        for thing in wrong + [thing for thing in plain.odd_things() if thing != {}]:
            self.assertIs(is_rows(thing), False)
            self.raises((errors.BadRows, thing), told_piece, thing)
        for thing in plain.odd_things():
            if not isinstance(thing, (list, tuple)) or thing not in ([], (), ["nowhere"]):
                self.assertIs(is_rows({(): thing}), False)
            if thing != "nowhere":
                self.assertIs(is_rows({(): [thing]}), False)
                self.assertIs(is_rows({(): ["p", thing]}), False)
            if not isinstance(thing, (list, dict, tuple, House)):
                self.assertIs(is_rows({(): [], thing: []}), False)


class TestToldPiece(plain.Checks):
    def judge(self, rows):
        piece = told_piece(rows)
        names = sorted({name for key in rows for name in key})
        self.assertEqual(len(piece.gates()), 1)
        self.assertEqual(outside_names(piece), names)
        self.assertEqual(list(piece.placing()), sorted(rows[tuple(names)]))
        case = (piece.house().rooms(), piece.house().doors(), piece.gates(), piece.placing(), piece.faces())
        self.assertEqual(plain_rows(case), {key: list(rows[key]) for key in rows})
        self.assertEqual(gate_rows(piece), {key: list(rows[key]) for key in rows})
        self.assertIs(is_whole(piece, {piece.gates()[0]: names + ["new"]}), True)
        return piece

    def test_all_small(self):
        for names, people in [("", "pq"), ("x", "pq"), ("xy", "pq")]:
            for rows in all_rows(names, people):
                if judged_rows(rows, names):
                    self.assertEqual(self.judge(rows), told_piece({key: tuple(rows[key]) for key in rows}))

    def test_drawn(self):
        chance = random.Random(4)
        for _ in range(150):
            names = ["n0", "n1", "x", "y"][:chance.randint(1, 4)]
            keys = [some for many in range(len(names) + 1) for some in itertools.combinations(names, many)]
            opening = chance.choice([None, names[0], names[-1]])
            rows = {key: [] for key in keys}
            for person in ["n2", "p", "q"]:
                least = [key for key in keys if chance.random() < 0.2 and (opening is None or opening in key)]
                for key in keys:
                    if any(set(some) <= set(key) for some in least):
                        rows[key].append(person)
            wanted = judged_rows(rows, names)
            self.assertIs(is_rows(rows), wanted)
            if wanted:
                self.judge(rows)

    def test_nobody(self):
        self.assertEqual(self.judge({(): []}).placing(), {})
        self.assertEqual(self.judge({(): [], ("x",): []}).placing(), {})
        self.judge({(): (), ("x",): (), ("y",): (), ("x", "y"): ()})

    def test_alike_by_rows(self):
        """With the same gate and people, alike just if both are never whole, or neither is and rows are the same."""
        cases = [case for case in drawn_pieces(700, 5) if len(case[2]) == 1]
        found = set()
        for one, other in itertools.combinations(cases, 2):
            if one[2] == other[2] and sorted(one[3]) == sorted(other[3]):
                never = [never_whole(made(case)) for case in (one, other)]
                same = gate_rows(made(one)) == gate_rows(made(other))
                wanted = never == [True, True] or (never == [False, False] and same)
                if (wanted, *never) not in found or wanted and not never[0]:
                    self.assertIs(alike_pieces(made(one), made(other)), wanted)
                found.add((wanted, *never))
        self.assertEqual(found, {(True, True, True), (True, False, False), (False, False, False), (False, True, False),
                                 (False, False, True)})


class TestLimits(plain.Checks):
    def test_four_names(self):
        names = ["w", "x", "y", "z"]
        keys = [some for many in range(5) for some in itertools.combinations(names, many)]
        people = [f"p{k:02d}" for k in range(20)]
        rows = {key: people if len(key) >= 2 else people[:1] for key in keys}
        piece = told_piece(rows)
        self.assertEqual(gate_rows(piece), rows)
        self.assertIs(never_whole(piece), False)

    def test_thirty_rooms_and_four_gates(self):
        chance = random.Random(7)
        for many in (32, 45):
            rooms, doors = plain.drawn_house(30, many, chance)
            gates = chance.sample(rooms, 4)
            placing = dict(zip(["p", "q", "r"], chance.sample([room for room in rooms if room not in gates], 3)))
            faces = plain.grown_map(rooms, doors, {**placing, **dict(zip("wxyz", gates))}, chance)
            one = rooms, doors, gates, placing, faces
            other = other_rooms(one, {"p": "s", "q": "t", "r": "v"})
            pairs = list(zip(gates, other[2]))
            for part in (pairs, pairs[:2]):
                joined = joined_pieces(made(one), made(other), part)
                for given in [{}, *[{gate: ["w", "x"]} for gate in joined.gates()],
                              dict.fromkeys(joined.gates(), ["w", "x", "y", "z"])]:
                    told = handed(made(one), made(other), part, given)
                    seen = {**seen_at(made(one), told[0]), **seen_at(made(other), told[1])}
                    self.assertEqual({gate: seen[gate] for gate in joined.gates()}, seen_at(joined, given))
                    whole = is_whole(made(one), told[0]) and is_whole(made(other), told[1])
                    self.assertIs(is_whole(joined, given), whole)


if __name__ == "__main__":
    unittest.main()
