"""How many walks of so many steps there are: of one person by rooms, and of several people together."""

from math import comb

from lastfaces.houses import beside


def walk_table(house, weights, many):
    """Returns the list, by numbers of steps up to many, of dicts from rooms to how many walks begin there.

    Weights is a dict from the rooms through which walks may go to what a walk counts that ends there. As doors
    lead both ways, it tells as well how many walks end in each room.
    """
    near = {room: [other for other in beside(house, room) if other in weights] for room in weights}
    table = [dict(weights)]
    for _ in range(many):
        last = table[-1]
        table.append({room: sum([last[other] for other in near[room]]) for room in near})
    return table


def open_rooms(house, barred):
    """Returns the weights for walks that end anywhere, but never come to barred rooms."""
    return {room: 1 for room in house.rooms() if room not in barred}


def counts_from(table, room):
    """Returns the list, by numbers of steps, of how many walks begin in a room: none in one that is barred."""
    return [walks.get(room, 0) for walks in table]


def counts_together(lists, many):
    """Returns the list, by numbers of steps up to many, of how many walks people have together, by lists of each.

    People do not hinder one another: of all steps any can be those of one person.
    """
    told = [1] + [0] * many
    for counts in lists:
        told = [sum([comb(steps, own) * counts[own] * told[steps - own] for own in range(steps + 1)])
                for steps in range(many + 1)]
    return told


def both_together(tables, many):
    """Returns a table of how many walks people have together of so many steps ahead of a time and behind it.

    Each person's table, too, tells these at [ahead][behind]; all steps together are many at most.
    """
    told = [[1 if ahead + behind == 0 else 0 for behind in range(many - ahead + 1)] for ahead in range(many + 1)]
    for table in tables:
        told = [[both_once(told, table, ahead, behind) for behind in range(many - ahead + 1)]
                for ahead in range(many + 1)]
    return told


def both_once(told, table, ahead, behind):
    """Returns how many walks of so many steps ahead and behind are one person's by a table, the rest as told."""
    many = 0
    for own in range(ahead + 1):
        for later in range(behind + 1):
            if table[own][later]:
                ways = comb(ahead, own) * comb(behind, later)
                many += ways * table[own][later] * told[ahead - own][behind - later]
    return many
