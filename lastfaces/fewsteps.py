"""Walks of few steps."""

from heapq import heappop, heappush

from lastfaces.builtwalks import steps_by_row
from lastfaces.houses import beside
from lastfaces.maps import rooms_of
from lastfaces.orders import left_rooms
from lastfaces.therule import check_goes
from lastfaces.walks import turned
from lastfaces.wants import check_no_ring
from lastfaces.ways import reached, way


def next_takings(house, faces, taken, where):
    """Returns the list of the triples (steps, person, room): how somebody can come next to a room not taken in."""
    told = []
    for person in sorted(where):
        ahead = reached(house, taken, where[person])
        steps = {}
        for room in ahead:
            steps[room] = 0 if ahead[room] is None else steps[ahead[room]] + 1
        for room in house.rooms():
            ends = [steps[near] for near in beside(house, room) if near in steps]
            if faces[room] == person and room not in taken and ends:
                told.append((min(ends) + 1, person, room))
    return told


def short_row(house, placing, faces):
    """Returns the pair of how few steps take in all left rooms, turned about in time, and of such a row of rooms.

    Nobody has to go on ahead of time: as more is taken in ways grow shorter. So all that counts is what is taken
    in, and where each stands behind its last taking.
    """
    many = len(left_rooms(house, placing, faces))
    people = sorted(placing)
    queue = [(0, [], [placing[person] for person in people])]
    done = set()
    while True:
        steps, row, rooms = heappop(queue)
        if len(row) == many:
            return steps, row
        state = (tuple(sorted(row)), tuple(rooms))
        if state not in done:
            done.add(state)
            taken = list(placing.values()) + row
            for more, person, room in next_takings(house, faces, taken, dict(zip(people, rooms))):
                stood = [room if other == person else old for other, old in zip(people, rooms)]
                heappush(queue, (steps + more, row + [room], stood))


def fewest_steps(house, placing, faces):
    """Returns how few steps walks have that end as a placing and a map tell."""
    steps, _ = short_row(house, placing, faces)
    return steps


def short_walk(house, placing, faces):
    """Returns a walk (start, steps) of the fewest steps that ends as a placing and a map tell."""
    _, row = short_row(house, placing, faces)
    return turned(house, placing, steps_by_row(house, placing, faces, row))


def spans_wanted(house, placing, faces):
    """Returns the dict from all people to how many steps each has at least, in a house without rings."""
    check_goes(house, placing, faces)
    check_no_ring(house)
    return {person: span(house, placing[person], rooms_of(house, faces, person)) for person in sorted(placing)}


def span(house, own, rooms):
    """Returns how few steps lead from a room, where doors make no ring, to all rooms of a list that it leads to."""
    ways = [way(house, own, room) for room in rooms]
    within = {room for gone in ways for room in gone}
    return 2 * (len(within) - 1) - (max([len(gone) for gone in ways]) - 1)
