"""How many maps go with a placing of one person or two in a house without rings of doors.

Rows of numbers tell how many ways there are by how many rooms show somebody: the first number is that for none.
"""

from lastfaces.houses import beside
from lastfaces.ways import reached, way_through


def added(one, other):
    """Returns the row of the sums of two rows."""
    longest = max(len(one), len(other))
    filled = [row + [0] * (longest - len(row)) for row in (one, other)]
    return [filled[0][index] + filled[1][index] for index in range(longest)]


def multiplied(one, other):
    """Returns the row for two things that do not bear on one another."""
    told = [0] * (len(one) + len(other) - 1)
    for index, many in enumerate(one):
        for further, more in enumerate(other):
            told[index + further] += many * more
    return told


class ForestMaps:
    """The maps that go with one person or two, fixed being a dict from rooms to faces that they surely show."""

    def __init__(self, house, placing, fixed):
        self._house = house
        self._placing = placing
        self._fixed = fixed

    def _ways(self, room, people):
        """Returns the row for a room that shows one of some people, as long as nothing is told of others."""
        return [0, len([person for person in people if self._fixed.get(room, person) == person])]

    def _behind(self, room, passed, people):
        """Returns the pair of the row for what lies behind a room, and whether all of it can show nobody.

        Passed are rooms beside it that do not lie behind it; a room shows somebody only if the one ahead does.
        """
        row = [1]
        is_blank = True
        for further in beside(self._house, room):
            if further not in passed:
                more, is_more_blank = self._behind(further, [room], people)
                more = multiplied(more, self._ways(further, people))
                is_more_blank = is_more_blank and self._fixed.get(further) is None
                row = multiplied(row, added(more, [1 if is_more_blank else 0]))
                is_blank = is_blank and is_more_blank
        return row, is_blank

    def row(self):
        """Returns the row of all maps."""
        return multiplied(added(self._apart(), self._as_one()), self._elsewhere())

    def row_as_one(self):
        """Returns the row of the maps of which the people are of one lot at last."""
        return multiplied(self._as_one(), self._elsewhere())

    def _way(self):
        """Returns the rooms of the way between where both stand, or the one room where one stands, None for no way."""
        rooms = list(self._placing.values())
        return way_through(self._house, self._house.rooms(), rooms[0], rooms[-1])

    def _elsewhere(self):
        """Returns the row for the rooms to which no doors lead from where somebody stands: they show nobody."""
        near = [room for own in self._placing.values() for room in reached(self._house, self._house.rooms(), own)]
        far = [room for room in self._fixed if room not in near and self._fixed[room] is not None]
        return [0] if far else [1]

    def _as_one(self):
        """Returns the row of the maps that make all people one lot, as all rooms on the way between show them."""
        way = self._way()
        if way is None:
            return [0]
        people = list(self._placing)
        ahead, behind = [1], [0]
        for room in way:
            row, _ = self._behind(room, way, people)
            # The first ones of these rooms show the one, all behind them the other one.
            behind = multiplied(added(ahead, behind) if room != way[0] else [0], self._ways(room, people[-1:]))
            ahead = multiplied(ahead, self._ways(room, people[:1]))
            ahead, behind = multiplied(ahead, row), multiplied(behind, row)
        return behind if len(people) > 1 else ahead

    def _apart(self):
        """Returns the row of the maps that leave two people lots of their own, which do not touch."""
        people = list(self._placing)
        if len(people) < 2:
            return [0]
        way = self._way()
        if way is None:
            own = [self._lone(person) for person in people]
            return multiplied(own[0], own[1])
        ahead, between, behind = [1], [0], [0]
        for room in way:
            one, is_blank = self._behind(room, way, people[:1])
            other, _ = self._behind(room, way, people[1:])
            behind = multiplied(multiplied(added(between, behind), other), self._ways(room, people[1:]))
            is_blank = is_blank and self._fixed.get(room) is None and room != way[0]
            between = added(ahead, between) if is_blank else [0]
            ahead = multiplied(multiplied(ahead, one), self._ways(room, people[:1]))
        return behind

    def _lone(self, person):
        """Returns the row for all rooms to which doors lead from a person's room, where nobody else stands."""
        room = self._placing[person]
        row, _ = self._behind(room, [], [person])
        return multiplied(row, self._ways(room, [person]))
