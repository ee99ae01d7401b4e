"""In which round people's lots become one."""

from lastfaces.lotsbyrows import Lots
from lastfaces.maps import check_placed_map
from lastfaces.mustrooms import check_placed


def people_by_rounds(house, placing, faces):
    """Returns the list of the lists of people of the lots, behind each round, round 0 ahead of all."""
    lots = Lots(house, placing, faces)
    told = [[people for people, _ in lots.told()]]
    taken = lots.open_rooms()
    while taken:
        for room in taken:
            lots.take(room)
        told.append([people for people, _ in lots.told()])
        taken = lots.open_rooms()
    return told


def joining_round(rounds, one, other):
    """Returns the number of the first round behind which two people are of one lot, None if they never are."""
    for number, lots in enumerate(rounds):
        if any([one in people and other in people for people in lots]):
            return number
    return None


def joined_at(house, placing, faces, one, other):
    """Returns the number of the first round behind which two people of a placing are of one lot, None for never."""
    check_placed_map(house, placing, faces)
    check_placed(placing, one)
    check_placed(placing, other)
    return joining_round(people_by_rounds(house, placing, faces), one, other)


def joinings(house, placing, faces):
    """Returns the list of the triples (round, one, other) that join all people that are joined some time."""
    check_placed_map(house, placing, faces)
    rounds = people_by_rounds(house, placing, faces)
    people = sorted(placing)
    pairs = [(joining_round(rounds, one, other), one, other) for one in people for other in people if one < other]
    told = []
    # By person: a number that those share who are joined by the triples told.
    joined = {person: index for index, person in enumerate(people)}
    for number, one, other in sorted([pair for pair in pairs if pair[0] is not None]):
        if joined[one] != joined[other]:
            told.append((number, one, other))
            gone = joined[other]
            joined = {person: joined[one] if joined[person] == gone else joined[person] for person in people}
    return told
