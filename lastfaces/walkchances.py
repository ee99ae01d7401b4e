"""Chances of walks of just so many steps, each of them being as likely."""

from lastfaces.errors import NoSteps
from lastfaces.houses import beside, check_room
from lastfaces.things import fraction
from lastfaces.walkcounts import check_start_and_many, count_walks, walks_to_table
from lastfaces.walktables import both_together, counts_from, counts_together, open_rooms, walk_table


def all_walks(house, start, many):
    """Returns how many walks there are: raises NoSteps if there is none."""
    walks = count_walks(house, start, many)
    if walks == 0:
        raise NoSteps()
    return walks


def never_count(house, start, many, room):
    """Returns how many walks there are in which nobody ever is in a room: those of the house without it."""
    table = walk_table(house, open_rooms(house, [room]), many)
    return counts_together([counts_from(table, begun) for begun in start.values()], many)[many]


def never_chance(house, start, many, room):
    """Returns the chance that nobody ever is in a room."""
    check_start_and_many(house, start, many)
    check_room(house, room)
    walks = all_walks(house, start, many)
    return fraction(never_count(house, start, many, room), walks)


def mean_seen(house, start, many):
    """Returns the mean number of rooms in which somebody was."""
    walks = all_walks(house, start, many)
    return fraction(sum([walks - never_count(house, start, many, room) for room in house.rooms()]), walks)


def left_counts(house, start, many, room, person):
    """Returns the list, by numbers of steps, of how many walks there are by which a person goes out of a room last.

    It is where nobody else is, goes out by this step, and all keep out behind it.
    """
    free = walk_table(house, open_rooms(house, [room]), many)
    tables = []
    for other in sorted(start):
        ahead = walks_to_table(house, start[other], many)
        # As a person goes out it comes to one of the rooms beside; all others are elsewhere by then.
        if other == person:
            pairs = [(room, near) for near in beside(house, room)]
        else:
            pairs = [(near, near) for near in free[0]]
        tables.append([[sum([ahead[steps][one] * free[later][near] for one, near in pairs])
                        for later in range(many - steps)] for steps in range(many)])
    together = both_together(tables, many - 1)
    return [0] + [together[steps - 1][many - steps] for steps in range(1, many + 1)]


def stand_count(house, start, many, room, person):
    """Returns how many walks there are at the end of which a person stands in a room, and nobody else."""
    there = walks_to_table(house, room, many)
    anywhere = walk_table(house, open_rooms(house, []), many)
    counts = []
    for other in start:
        own = counts_from(there, start[other])
        every = counts_from(anywhere, start[other])
        counts.append(own if other == person else [every[steps] - own[steps] for steps in range(many + 1)])
    return counts_together(counts, many)[many]


def face_chances(house, start, many, room):
    """Returns the triple of people's chances to be a room's last face, of nobody's ever being there, and of a crowd.

    A crowd are two or more who stand there at last.
    """
    check_start_and_many(house, start, many)
    check_room(house, room)
    walks = all_walks(house, start, many)
    counts = {}
    for person in sorted(start):
        out = sum(left_counts(house, start, many, room, person))
        counts[person] = out + stand_count(house, start, many, room, person)
    never = never_count(house, start, many, room)
    crowded = walks - never - sum(list(counts.values()))
    chances = {person: fraction(counts[person], walks) for person in counts}
    return chances, fraction(never, walks), fraction(crowded, walks)


def left_chances(house, start, many, room):
    """Returns the dict from the numbers of the steps by which somebody goes out of a room last to the chances."""
    check_start_and_many(house, start, many)
    check_room(house, room)
    walks = all_walks(house, start, many)
    told = [0] * (many + 1)
    for person in start:
        counts = left_counts(house, start, many, room, person)
        told = [told[steps] + counts[steps] for steps in range(many + 1)]
    return {steps: fraction(count, walks) for steps, count in enumerate(told) if count > 0}
