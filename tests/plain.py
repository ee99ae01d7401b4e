"""Plain reckonings to hold the program against: they go through all possibilities, and call nothing of the rule.

Here a house is a pair (rooms, doors) of lists, so that nothing depends on how the program keeps it.
"""

import random
import unittest
from itertools import combinations, permutations, product

from lastfaces.errors import FaceError
from lastfaces.houses import House

# Not in order, so that what has to be ascending is not so by chance.
NAMES = ["d", "b", "e1", "a", "c"]


class Checks(unittest.TestCase):
    def raises(self, error, call, *args):
        """Asserts that a call raises just this error, keeping just these objects."""
        kind, *kept = error
        with self.assertRaises(FaceError) as caught:
            call(*args)
        self.assertIs(type(caught.exception), kind)
        told = list(vars(caught.exception).values())
        self.assertEqual(len(told), len(kept))
        for one, other in zip(told, kept):
            if type(other) in (int, str):
                self.assertEqual((type(one), one), (type(other), other))
            else:
                self.assertIs(one, other)


    def judge_walk(self, rooms, doors, walk, ends, last, first=None):
        """Asserts that a pair (start, steps) is a walk with these stands and faces; returns where all are, by times."""
        start, steps = walk
        self.assertEqual((type(walk), type(start), type(steps)), (tuple, dict, list))
        self.assertEqual(list(start), sorted(ends))
        self.assertTrue(all(type(step) is tuple for step in steps))
        times = gone_through(start, steps)
        for (person, room), where in zip(steps, times):
            self.assertIn(room, near(doors, where[person]))
        self.assertEqual(times[-1], ends)
        self.assertEqual(plain_faces(rooms, times), last)
        if first is not None:
            self.assertEqual(plain_faces(rooms, times[::-1]), first)
        return times

    def ascends(self, told):
        """Asserts that all dicts within what was told are ascending by their keys."""
        if isinstance(told, dict):
            self.assertEqual(list(told), sorted(told))
            told = list(told.values())
        if isinstance(told, (list, tuple)):
            for part in told:
                self.ascends(part)


def odd_things():
    """Any objects, none of them a room of the houses used here: names and others."""
    deep = []
    for _ in range(90):
        deep = [deep]
    return [
        0, 1, -1, 7, 10 ** 60, True, False, None, "", "A", "1a", "a_", "a b", "nowhere", "x" * 13, "x" * 500, "\u00e9",
        [], (), {}, [[]], [None], deep, ["nowhere"], [1, 2, 3], ("q", "q"), {"q": []}, {1: 2}, {None: None},
        {"nowhere": "nowhere"}, {"x": 1}, len, lambda thing: thing, House(["h"], []), FaceError(), FaceError,
    ]


def no_names():
    """Any objects that are no name."""
    return [thing for thing in odd_things() if thing != "nowhere"]


def no_pairs():
    """Any objects that are no pair of rooms, persons and rooms, or the like, of the houses used here."""
    return odd_things() + [("a",), ("a", "b", "c"), ["a", ["b"]], (["a"], "b"), ("a", None), (1, "a"), "ab", {"a": "b"}]


def no_lists():
    """Any objects that are no list, and no tuple."""
    return [thing for thing in odd_things() if not isinstance(thing, (list, tuple))]


def graph_key(size, doors):
    """The same for graphs of rooms 0, 1, .. that are alike but for their numbers."""
    keys = []
    for order in permutations(range(size)):
        keys.append(sorted(sorted((order[one], order[other])) for one, other in doors))
    return min(keys)


def graphs(size):
    """One graph of each shape with so many rooms, as lists of pairs of numbers."""
    pairs = list(combinations(range(size), 2))
    found = {}
    for picks in product([False, True], repeat=len(pairs)):
        doors = [pair for pair, pick in zip(pairs, picks) if pick]
        found[str(graph_key(size, doors))] = doors
    return [found[key] for key in sorted(found)]


def named(size, doors):
    """The house of a graph."""
    return NAMES[:size], [(NAMES[one], NAMES[other]) for one, other in doors]


def small_houses(most=4):
    """Houses of each shape with at most so many rooms: rings, parts that lie apart, one room alone."""
    return [named(size, doors) for size in range(1, most + 1) for doors in graphs(size)]


def five_room_houses():
    """Some houses of five rooms."""
    ring = [(0, 1), (1, 2), (2, 3), (3, 4), (4, 0)]
    return [named(5, doors) for doors in [
        ring, ring[:4], [(0, 1), (0, 2), (0, 3), (0, 4)], ring + [(0, 2)],
        [(0, 1), (1, 2), (2, 0), (0, 3), (1, 4)], [(0, 1), (1, 2), (2, 3), (3, 0), (3, 4)],
        [(0, 1), (1, 2), (3, 4)], [(0, 1), (1, 2), (2, 0), (3, 4)]]]


def near(doors, room):
    """The rooms a door further."""
    return [b for a, b in doors if a == room] + [a for a, b in doors if b == room]


def placings(rooms, people):
    """All placings of just these people."""
    return [dict(zip(people, chosen)) for chosen in permutations(rooms, len(people))]


def starts(rooms, people):
    """All starts of just these people."""
    return [dict(zip(people, chosen)) for chosen in product(rooms, repeat=len(people))]


def maps(rooms, faces):
    """All maps that show these faces."""
    return [dict(zip(rooms, chosen)) for chosen in product(faces, repeat=len(rooms))]


def map_key(faces):
    """A key of a map."""
    return tuple(sorted((room, str(face)) for room, face in faces.items()))


def walked_ends(rooms, doors, people):
    """The pairs (placing, last faces), as keys, of all walks of just these people who stand in unlike rooms at last.

    It goes through all that can be: where people are, and who went last out of each room.
    """
    first = [(where, (None,) * len(rooms)) for where in product(range(len(rooms)), repeat=len(people))]
    seen = set(first)
    queue = list(first)
    number = {room: index for index, room in enumerate(rooms)}
    further = [[number[room] for room in near(doors, rooms[index])] for index in range(len(rooms))]
    while queue:
        where, out = queue.pop()
        for index in range(len(people)):
            left = out[:where[index]] + (people[index],) + out[where[index] + 1:]
            for room in further[where[index]]:
                state = (where[:index] + (room,) + where[index + 1:], left)
                if state not in seen:
                    seen.add(state)
                    queue.append(state)
    ends = set()
    for where, out in seen:
        if len(set(where)) == len(where):
            faces = dict(zip(rooms, out))
            faces.update({rooms[room]: person for room, person in zip(where, people)})
            ends.add((map_key({p: rooms[r] for p, r in zip(people, where)}), map_key(faces)))
    return ends


def component(doors, some, room):
    """The rooms to which doors lead from a room through some rooms."""
    found = {room}
    grown = True
    while grown:
        new = {b for a in found for b in near(doors, a) if b in some and b not in found}
        found |= new
        grown = bool(new)
    return frozenset(found)


def plain_parts(doors, some):
    """The greatest lists of some rooms that hang together."""
    return sorted(sorted(part) for part in {component(doors, some, room) for room in some})


def plain_lots(doors, placing, taken):
    """The lots when these rooms are taken in: what hangs together of them, with the people who stand in it."""
    lots = []
    for rooms in plain_parts(doors, taken):
        people = sorted(person for person in placing if placing[person] in rooms)
        lots.append((people, rooms))
    return sorted(lots)


def plain_takable(rooms, doors, placing, faces, taken):
    """The rooms that can be taken when these are taken in."""
    found = []
    for room in sorted(rooms):
        touched = [people for people, some in plain_lots(doors, placing, taken) if set(near(doors, room)) & set(some)]
        if room not in taken and any(faces[room] in people for people in touched):
            found.append(room)
    return found


def plain_rows(rooms, doors, placing, faces):
    """All rows, the empty one ahead, each with the rooms taken in behind it."""
    rows = [[]]
    for row in rows:
        taken = list(placing.values()) + row
        for room in plain_takable(rooms, doors, placing, faces, taken):
            rows.append(row + [room])
    return rows


def plain_paper(rooms, doors, placing, faces, lots):
    """Whether lots, pairs of lists of placed people and of rooms, are a paper."""
    if sorted(person for people, _ in lots for person in people) != sorted(placing):
        return False
    all_rooms = [room for _, some in lots for room in some]
    if len(set(all_rooms)) < len(all_rooms):
        return False
    if not all(placing[person] in some for people, some in lots for person in people):
        return False
    for people, some in lots:
        around = {b for a in some for b in near(doors, a)} - set(some)
        if around & set(all_rooms) or any(faces[room] in people for room in around):
            return False
    return any(faces[room] is not None and room not in all_rooms for room in rooms)


def gone_through(start, steps):
    """The list of where all are: at first, and behind each step."""
    times = [dict(start)]
    for person, room in steps:
        times.append({**times[-1], person: room})
    return times


def plain_faces(rooms, times):
    """Who was in each room at the latest of times at which anybody was: a list if two or more were."""
    faces = {}
    for room in sorted(rooms):
        found = [sorted(p for p in where if where[p] == room) for where in times if room in where.values()]
        last = found[-1] if found else [None]
        faces[room] = last[0] if len(last) == 1 else last
    return faces


def all_walks(doors, start, most):
    """All lists of at most so many steps from a start."""
    rows = [[]]
    for row in rows:
        where = gone_through(start, row)[-1]
        if len(row) < most:
            rows.extend(row + [(person, room)] for person in sorted(where) for room in near(doors, where[person]))
    return rows


def both_kinds(thing):
    """A thing with lists for tuples, and one with tuples for lists, at every depth."""
    def turned(part, kind):
        if isinstance(part, (list, tuple)):
            return kind(turned(inner, kind) for inner in part)
        if isinstance(part, dict):
            return {key: turned(part[key], kind) for key in part}
        return part
    return turned(thing, list), turned(thing, tuple)


def other_order(told):
    """A dict with its keys the other way round."""
    return {key: told[key] for key in reversed(list(told))}


def rooms_showing(rooms, faces, person):
    """The ascending list of the rooms that show a person."""
    return [room for room in sorted(rooms) if faces[room] == person]


def plain_closure(doors, placing, faces):
    """The rooms taken in at last: round by round, what shows one of the people of a lot beside it."""
    taken = set(placing.values())
    while True:
        more = set()
        for people, some in plain_lots(doors, placing, taken):
            around = {b for a in some for b in near(doors, a)} - taken
            more |= {room for room in around if faces[room] in people}
        if not more:
            return taken
        taken |= more


def plain_goes(doors, placing, faces):
    """Whether each placed person's room shows it and all rooms that show somebody are taken in."""
    if any(faces[placing[person]] != person for person in placing):
        return False
    taken = plain_closure(doors, placing, faces)
    return all(room in taken for room in faces if faces[room] is not None)


def going_placings(rooms, doors, faces):
    """All placings with which a map goes, by their rooms, people ascending."""
    people = sorted({face for face in faces.values() if face is not None})
    choices = product(*[rooms_showing(rooms, faces, person) for person in people])
    placings_told = [dict(zip(people, chosen)) for chosen in choices]
    return [placing for placing in placings_told if plain_goes(doors, placing, faces)]


def keeping(placings_told, lists):
    """Those of some placings that have people in rooms of their lists."""
    return [placing for placing in placings_told if all(placing[person] in lists[person] for person in lists)]


def plain_fields(rooms, doors, faces, people):
    return plain_parts(doors, [room for room in rooms if faces[room] in people])


def plain_joined(rooms, doors, faces, choices):
    """The fields that some choice, a placing out of lists for each person, joins by the rule."""
    told = []
    for field in plain_fields(rooms, doors, faces, list(choices)):
        inner = [(one, other) for one, other in doors if one in field and other in field]
        for chosen in product(*choices.values()):
            placing = dict(zip(choices, chosen))
            if set(chosen) <= set(field):
                taken = plain_closure(inner, placing, {room: faces[room] for room in field})
                if plain_lots(inner, placing, taken) == [(sorted(placing), field)]:
                    told.append(field)
                    break
    return told


def drawn_lists(rooms, faces, chance):
    """Lists for some of the people shown, drawn by a random.Random."""
    lists = {}
    for person in sorted({face for face in faces.values() if face is not None}, reverse=True):
        if chance.random() < 0.7:
            shows = [room for room in rooms_showing(rooms, faces, person) if chance.random() < 0.6]
            lists[person] = chance.sample(shows, len(shows))
    return lists


def larger_cases(many, seed, sizes=(5, 6, 7), people="pqrs"):
    """Drawn houses and maps, as (rooms, doors, faces): most rooms show somebody."""
    chance = random.Random(seed)
    for _ in range(many):
        size = chance.choice(sizes)
        rooms = ["f", *NAMES, "aa"][:size]
        pairs = list(combinations(rooms, 2))
        doors = chance.sample(pairs, chance.randint(size - 2, size + 1))
        names = people[:chance.randint(1, len(people))]
        weights = [chance.random() + 0.1 for _ in names] + [0.15]
        yield rooms, doors, {room: chance.choices([*names, None], weights)[0] for room in rooms}


def walked_both(rooms, doors, begins):
    """The triples (stands, first faces, last faces) of all walks from begins by which all stand apart at last.

    Each is a row of rooms, people ascending, or of faces, rooms as they come.
    """
    people = sorted(begins)
    number = {room: index for index, room in enumerate(rooms)}
    further = [[number[room] for room in near(doors, rooms[index])] for index in range(len(rooms))]
    where = tuple(number[begins[person]] for person in people)
    seen_first = tuple(people[where.index(index)] if index in where else None for index in range(len(rooms)))
    first = (where, seen_first, (None,) * len(rooms))
    seen = {first}
    queue = [first]
    while queue:
        where, came, out = queue.pop()
        for index, person in enumerate(people):
            left = out[:where[index]] + (person,) + out[where[index] + 1:]
            for room in further[where[index]]:
                now = came if came[room] else came[:room] + (person,) + came[room + 1:]
                state = (where[:index] + (room,) + where[index + 1:], now, left)
                if state not in seen:
                    seen.add(state)
                    queue.append(state)
    ends = set()
    for where, came, out in seen:
        if len(set(where)) == len(where):
            last = [people[where.index(index)] if index in where else out[index] for index in range(len(rooms))]
            ends.add((tuple(rooms[index] for index in where), came, tuple(last)))
    return ends


def walked_from(rooms, doors, start, kept=None):
    """The pairs (stands, last faces), rows of rooms and of faces, of all walks from a start in which nobody comes to
    rooms kept from it and all stand apart at last."""
    people = sorted(start)
    barred = {person: (kept or {}).get(person, []) for person in people}
    if any(start[person] in barred[person] for person in people):
        return set()
    first = (tuple(start[person] for person in people), (None,) * len(rooms))
    seen = {first}
    queue = [first]
    while queue:
        where, out = queue.pop()
        for index, person in enumerate(people):
            at = rooms.index(where[index])
            left = out[:at] + (person,) + out[at + 1:]
            for room in near(doors, where[index]):
                state = (where[:index] + (room,) + where[index + 1:], left)
                if room not in barred[person] and state not in seen:
                    seen.add(state)
                    queue.append(state)
    ends = set()
    for where, out in seen:
        if len(set(where)) == len(where):
            last = [people[where.index(room)] if room in where else face for room, face in zip(rooms, out)]
            ends.add((where, tuple(last)))
    return ends


def row_of(told, keys):
    """The values of a dict by some keys."""
    return tuple(told[key] for key in keys)


def going_maps(rooms, doors, placing):
    """All maps that go with a placing."""
    others = [room for room in rooms if room not in placing.values()]
    own = {room: person for person, room in placing.items()}
    told = [{**own, **faces} for faces in maps(others, [None, *placing])]
    return [faces for faces in told if plain_goes(doors, placing, faces)]


def going_cases(houses, most, every=1):
    """Placings of at most so many people and maps that go with them, as (rooms, doors, placing, faces); some of all."""
    index = 0
    for rooms, doors in houses:
        for many in range(min(most, len(rooms)) + 1):
            for placing in placings(rooms, ["y", "x", "z"][:many]):
                for faces in going_maps(rooms, doors, placing):
                    index += 1
                    if index % every == 0:
                        yield rooms, doors, placing, faces


def left_of(rooms, placing, faces):
    """The left rooms: those that show somebody and in which nobody is placed."""
    return [room for room in sorted(rooms) if faces[room] and room not in placing.values()]


def plain_orders(rooms, doors, placing, faces):
    """All rows of all left rooms, ascending."""
    many = len(left_of(rooms, placing, faces))
    told, takable = [[]], {}
    for _ in range(many):
        further = []
        for row in told:
            taken = [*placing.values(), *row]
            key = frozenset(taken)
            if key not in takable:
                takable[key] = plain_takable(rooms, doors, placing, faces, taken)
            further += [row + [room] for room in takable[key]]
        told = further
    return sorted(told)


def walked_orders(rooms, doors, people):
    """The triples (stands, last faces, order) of all walks of just these people who stand apart at last.

    The order has the rooms that were left and in which nobody stands, the one first that was left last. Each state
    is where people are, and the rooms that were left, with who left them last, the latest one first.
    """
    first = [(where, ()) for where in product(rooms, repeat=len(people))]
    seen = set(first)
    queue = list(first)
    while queue:
        where, out = queue.pop()
        for index, person in enumerate(people):
            old = where[index]
            behind = ((old, person),) + tuple(pair for pair in out if pair[0] != old)
            for room in near(doors, old):
                state = (where[:index] + (room,) + where[index + 1:], behind)
                if state not in seen:
                    seen.add(state)
                    queue.append(state)
    told = set()
    for where, out in seen:
        if len(set(where)) == len(where):
            faces = {**dict.fromkeys(rooms), **dict(out), **dict(zip(where, people))}
            order = tuple(room for room, _ in out if room not in where)
            told.add((where, row_of(faces, rooms), order))
    return told


def is_forest(rooms, doors):
    """Whether doors make no ring: then there are just as many as rooms, less the parts."""
    return len(doors) == len(rooms) - len(plain_parts(doors, rooms))


def grown_map(rooms, doors, placing, chance, most=1000):
    """A map that goes with a placing, drawn by a random.Random: in which all rooms that can be come to show somebody.

    Or, of these, so many at most in which nobody stands.
    """
    faces = {**dict.fromkeys(rooms), **{room: person for person, room in placing.items()}}
    for _ in range(most):
        taken = [room for room in rooms if faces[room]]
        edge = [(a, b) for one, other in doors for a, b in [(one, other), (other, one)] if faces[a] and not faces[b]]
        if not edge:
            break
        one, room = chance.choice(edge)
        part = component(doors, taken, one)
        faces[room] = chance.choice([person for person in sorted(placing) if placing[person] in part])
    return faces


def grown_cases(many, seed, sizes=(4, 5, 6), most=3, rings=True):
    """Drawn houses, placings and maps that go with them, most rooms showing somebody; without rings if told so."""
    chance = random.Random(seed)
    while many > 0:
        size = chance.choice(sizes)
        rooms = chance.sample(["f", *NAMES, "aa"][:size], size)
        doors = chance.sample(list(combinations(rooms, 2)), chance.randint(size - 2, size + 1 if rings else size - 1))
        if rings or is_forest(rooms, doors):
            many -= 1
            people = chance.sample(["q", "p", "r", "s"], chance.randint(1, most))
            placing = dict(zip(people, chance.sample(rooms, len(people))))
            yield rooms, doors, placing, grown_map(rooms, doors, placing, chance, chance.choice([size, size, 2]))


def drawn_house(size, many, chance):
    """A house of so many rooms that hangs together, with so many doors."""
    rooms = [f"r{k:02d}" for k in range(size)]
    doors = [(rooms[chance.randrange(k)], rooms[k]) for k in range(1, size)]
    pairs = [pair for pair in combinations(rooms, 2) if pair not in doors]
    return rooms, doors + chance.sample(pairs, many - len(doors))


def walked_costs(rooms, doors, people, cost_of):
    """The dict from the pairs (stands, last faces), rows of rooms and of faces, to the least costs of walks with them.

    It goes through all walks of just these people who stand apart at last. cost_of tells what a step of a person
    costs, 0 or 1, behind one of another person, or of none.
    """
    first = [(where, (None,) * len(rooms), None) for where in product(rooms, repeat=len(people))]
    costs = {}
    edges = [first, []]
    cost = 0
    while edges[0]:
        further = []
        queue = edges.pop(0)
        while queue:
            state = queue.pop()
            if state in costs:
                continue
            costs[state] = cost
            where, out, ahead = state
            for index, person in enumerate(people):
                at = rooms.index(where[index])
                left = out[:at] + (person,) + out[at + 1:]
                for room in near(doors, where[index]):
                    now = (where[:index] + (room,) + where[index + 1:], left, person)
                    (further if cost_of(ahead, person) else queue).append(now)
        edges.insert(0, further)
        cost += 1
    told = {}
    for (where, out, _), many in costs.items():
        if len(set(where)) == len(where):
            last = tuple(people[where.index(room)] if room in where else face for room, face in zip(rooms, out))
            told[where, last] = min(many, told.get((where, last), many))
    return told
