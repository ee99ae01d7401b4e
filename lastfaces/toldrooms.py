"""Chances of last rooms, and which of them are best told."""

from itertools import combinations

from lastfaces.fields import check_lists
from lastfaces.lastamong import check_shown, pieces_of
from lastfaces.lastcounts import PieceCounts, Placings, check_some_keep
from lastfaces.therule import check_goes
from lastfaces.things import fraction


def stand_counts(placings, person):
    """Returns the dict from the rooms where a person can stand at last to how many placings have it there."""
    counts = {room: placings.count_with({person: room}) for room in placings.choice(person)}
    return {room: counts[room] for room in counts if counts[room] > 0}


def squares(placings, person):
    """Returns the sum of the squares of how many placings have a person in each room."""
    return sum([many * many for many in stand_counts(placings, person).values()])


def stand_chances(house, faces, lists, person):
    """Returns the dict from the rooms where a person can stand at last to chances, each placing being as likely."""
    check_lists(house, faces, lists)
    check_shown(house, faces, person)
    placings = Placings(house, faces, lists)
    check_some_keep(house, faces, lists, placings)
    counts = stand_counts(placings, person)
    return {room: fraction(counts[room], placings.count_with({})) for room in counts}


def left_mean(house, faces, lists, person):
    """Returns how many placings are left in the mean if a person's last room is told, too."""
    check_lists(house, faces, lists)
    check_shown(house, faces, person)
    placings = Placings(house, faces, lists)
    check_some_keep(house, faces, lists, placings)
    return fraction(squares(placings, person), placings.count_with({}))


def best_told(house, faces, lists):
    """Returns the first person with the least left_mean, None if the map shows nobody."""
    check_lists(house, faces, lists)
    placings = Placings(house, faces, lists)
    check_some_keep(house, faces, lists, placings)
    # All means are by how many placings there are: so the least one has the least squares.
    return min(placings.all_names(), key=lambda person: squares(placings, person), default=None)


def fewest_places(house, placing, faces):
    """Returns the first of the shortest lists of people whose rooms no other placing has with which the map goes."""
    check_goes(house, placing, faces)
    # What one piece leaves open no other one settles: so the shortest lists are put together piece by piece.
    return sorted([person for piece in pieces_of(house, faces) for person in fewest_in(piece, placing)])


def fewest_in(piece, placing):
    """Returns the first of the shortest lists of a piece's people whose rooms settle those of all its people."""
    counts = PieceCounts(piece)
    people = piece.all_names()
    for many in range(len(people) + 1):
        for some in combinations(people, many):
            if counts.how_many({person: [placing[person]] for person in some}) == 1:
                return list(some)
    return people
