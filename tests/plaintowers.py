"""Plain reckonings about towers; a tower is a triple (floors, landings, chutes), a floor a pair (rooms, doors)."""

import random
from itertools import combinations, product

from lastfaces.houses import House
from lastfaces.towers import Tower

import plain


def made(tower):
    """The Tower of a plain one."""
    floors, landings, chutes = tower
    return Tower([House(rooms, doors) for rooms, doors in floors], landings, chutes)


def rooms_of(tower):
    """All rooms, floor by floor."""
    return [room for rooms, _ in tower[0] for room in rooms]


def doors_of(tower):
    return [door for _, doors in tower[0] for door in doors]


def floor_at(tower, room):
    return [index for index, (rooms, _) in enumerate(tower[0]) if room in rooms][0]


def down_from(tower, room):
    """The rooms to which one goes from a room, by doors and down chutes."""
    _, landings, chutes = tower
    return plain.near(doors_of(tower), room) + [end for floor, end in chutes if landings[floor] == room]


def up_from(tower, room):
    """The rooms to which one goes from a room, by doors and up chutes."""
    _, landings, chutes = tower
    return plain.near(doors_of(tower), room) + [landings[floor] for floor, end in chutes if end == room]


def floor_shapes(names):
    """One floor of each shape with these rooms."""
    return [(names, [(names[one], names[other]) for one, other in doors]) for doors in plain.graphs(len(names))]


def small_towers(many, seed, sizes=((1, 1), (1, 2), (2, 1), (2, 2), (1, 1, 1), (1, 1, 2), (2, 1, 1), (1, 2, 1), (3,))):
    """Drawn towers of few rooms, of all these sizes of floors."""
    chance = random.Random(seed)
    for index in range(many):
        names = chance.sample(["b", "e", "a", "d", "c", "f"], 6)
        floors = []
        for size in sizes[index % len(sizes)]:
            own = [names.pop() for _ in range(size)]
            floors.append(chance.choice(floor_shapes(own)[-2:]))
        landings = [chance.choice(rooms) for rooms, _ in floors]
        chutes = [(floor, room) for floor in range(len(floors)) for rooms, _ in floors[:floor] for room in rooms]
        chutes = [chute for chute in chutes if chance.random() < 0.75]
        yield floors, landings, chance.sample(chutes, len(chutes))


def tower_ends(tower, people, barred=None, start=None):
    """The dict from the pairs (stands, last faces) of all walks to the starts from which they lead there.

    Stands are rows of rooms, people as told, starts too; faces are a row, rooms as rooms_of. Barred tells of some
    people rooms to which they do not come, nor begin there.
    """
    rooms = rooms_of(tower)
    onward = {room: down_from(tower, room) for room in rooms}
    barred = {person: (barred or {}).get(person, []) for person in people}
    ends = {}
    for begins in [start] if start else product(rooms, repeat=len(people)):
        if any(room in barred[person] for person, room in zip(people, begins)):
            continue
        first = (begins, (None,) * len(rooms))
        seen = {first}
        queue = [first]
        while queue:
            where, out = queue.pop()
            if len(set(where)) == len(where):
                last = tuple(people[where.index(room)] if room in where else face for room, face in zip(rooms, out))
                ends.setdefault((where, last), set()).add(begins)
            for index, person in enumerate(people):
                at = rooms.index(where[index])
                left = out[:at] + (person,) + out[at + 1:]
                for room in onward[where[index]]:
                    state = (where[:index] + (room,) + where[index + 1:], left)
                    if room not in barred[person] and state not in seen:
                        seen.add(state)
                        queue.append(state)
    return ends


def reached(onward, some, begin):
    """The rooms to which one comes from some rooms through rooms taken in."""
    found = set(begin)
    queue = list(begin)
    while queue:
        for room in onward(queue.pop()):
            if room in some and room not in found:
                found.add(room)
                queue.append(room)
    return found


def lot_of(tower, placing, person, floor, taken):
    """What is taken in of a floor and hangs together with a person's room, or, if it came up, with the landing."""
    own = placing[person]
    begin = own if floor_at(tower, own) == floor else tower[1][floor]
    rooms, doors = tower[0][floor]
    return reached(lambda room: plain.near(doors, room), [room for room in rooms if room in taken], [begin])


def what_can_be_done(tower, placing, faces, taken, floors):
    """All that (a) and (b) of [69] let be done next: pairs ("take", room), and triples ("up", person, floor)."""
    told = []
    for person, floor in floors.items():
        lot = lot_of(tower, placing, person, floor, taken)
        for room in rooms_of(tower):
            if floor_at(tower, room) == floor and faces[room] == person and room not in taken:
                if lot & set(plain.near(doors_of(tower), room)):
                    told.append(("take", room))
        lacking = [floor_at(tower, room) for room in faces if faces[room] == person and room not in taken]
        if lacking and min(lacking) > floor:
            landing = tower[1][min(lacking)]
            through = taken | ({landing} if faces[landing] == person else set())
            if landing in reached(lambda room: up_from(tower, room), through, lot):
                told.append(("up", person, min(lacking)))
    return told


def gone_up(tower, placing, faces, pick):
    """The rooms taken in at last, and people's floors, what is done being picked."""
    taken = set(placing.values())
    floors = {person: floor_at(tower, placing[person]) for person in placing}
    told = what_can_be_done(tower, placing, faces, taken, floors)
    while told:
        done = pick(told)
        if done[0] == "up":
            floors[done[1]] = done[2]
        taken.add(done[1] if done[0] == "take" else tower[1][done[2]])
        told = what_can_be_done(tower, placing, faces, taken, floors)
    return sorted(taken), {person: floors[person] for person in sorted(floors)}


def is_paper(tower, placing, faces, some, floors):
    """By the words of [71]: of a list of unlike rooms, and a dict from just the people to indexes of floors."""
    taken = set(some)
    if not set(placing.values()) <= taken or all(room in taken for room in faces if faces[room]):
        return False
    for person, floor in floors.items():
        own = floor_at(tower, placing[person])
        shows = [room for room in faces if faces[room] == person]
        if floor < own:
            return False
        if floor > own and (tower[1][floor] not in taken or not any(floor_at(tower, room) == floor for room in shows)):
            return False
        if any(room not in taken and own <= floor_at(tower, room) < floor for room in shows):
            return False
    return not what_can_be_done(tower, placing, faces, taken, floors)


def all_lists(rooms):
    return [list(some) for many in range(len(rooms) + 1) for some in combinations(rooms, many)]


def drawn_tower(floors, size, chutes, chance):
    """A tower of so many floors, each of so many rooms that hang together, with so many chutes at most."""
    told = []
    for floor in range(floors):
        rooms, doors = plain.drawn_house(size, min(size, size * (size - 1) // 2) if size > 1 else 0, chance)
        names = {room: f"f{floor:02d}{room}" for room in rooms}
        told.append(([names[room] for room in rooms], [(names[one], names[other]) for one, other in doors]))
    every = [(floor, room) for floor in range(floors) for rooms, _ in told[:floor] for room in rooms]
    landings = [chance.choice(rooms) for rooms, _ in told]
    return told, landings, chance.sample(every, min(chutes, len(every)))


def grown_map(tower, placing, chance):
    """A map that goes with a placing: people go up by doors and chutes, taking in rooms in which nobody was."""
    rooms = rooms_of(tower)
    faces = {**dict.fromkeys(rooms), **{room: person for person, room in placing.items()}}
    where = dict(placing)
    for _ in range(20 * len(rooms)):
        person = chance.choice(sorted(where))
        further = [room for room in up_from(tower, where[person])]
        if further:
            where[person] = chance.choice(further)
            faces[where[person]] = faces[where[person]] or person
    return faces
