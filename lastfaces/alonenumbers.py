"""The numbers of walks of one person alone that see all rooms of a house without rings in the fewest steps."""

from lastfaces.alone import check_tree, count_through, steps_through
from lastfaces.errors import BadNumber
from lastfaces.houses import beside, is_room
from lastfaces.things import is_list, is_number_below
from lastfaces.ways import way


class Choices:
    """What can be chosen on a walk, gone room by room, that sees all rooms in the fewest steps."""

    def __init__(self, house, first, last):
        self._house = house
        self._leading = way(house, first, last)
        self._gone = [first]
        self._ahead = {first: None}

    def gone(self):
        """Returns the list of the rooms gone through."""
        return list(self._gone)

    def open_rooms(self):
        """Returns the ascending list of the rooms that can be gone to next: [] at the end."""
        now = self._gone[-1]
        rooms = [room for room in beside(self._house, now) if room not in self._ahead]
        # The way to the last room is gone when all that lies beside it is seen.
        if rooms:
            return [room for room in rooms if room not in self._leading] or rooms
        return [] if now == self._leading[-1] else [self._ahead[now]]

    def go(self, room):
        """Goes to a room."""
        self._ahead.setdefault(room, self._gone[-1])
        self._gone.append(room)


def through_at(house, first, last, number):
    """Returns the list of the rooms of the walk with a number among those from one room to another."""
    many = count_through(house, first, last)
    if not is_number_below(number, many):
        raise BadNumber(number)
    choices = Choices(house, first, last)
    rooms = choices.open_rooms()
    while rooms:
        # Whichever room is chosen, as many walks go on from it.
        many //= len(rooms)
        choices.go(rooms[number // many])
        number -= number // many * many
        rooms = choices.open_rooms()
    return choices.gone()


def through_number(house, thing):
    """Returns the number of a walk among those from its first to its last room, None of any other object."""
    check_tree(house)
    if not is_shortest(house, thing):
        return None
    choices = Choices(house, thing[0], thing[-1])
    many = count_through(house, thing[0], thing[-1])
    number = 0
    for room in thing[1:]:
        rooms = choices.open_rooms()
        many //= len(rooms)
        number += rooms.index(room) * many
        choices.go(room)
    return number


def is_shortest(house, thing):
    """Tells of any object whether it is a list of rooms, each beside the next, all seen in the fewest steps."""
    if not is_list(thing) or len(thing) == 0 or not all([is_room(house, room) for room in thing]):
        return False
    if len(thing) - 1 != steps_through(house, thing[0], thing[-1]) or len(set(thing)) < len(house):
        return False
    return all([further in beside(house, room) for room, further in zip(thing, thing[1:])])
