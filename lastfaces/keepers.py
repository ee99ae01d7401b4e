"""Houses that are told by keepers, askers who cannot tell them, and houses with few doors."""

from itertools import combinations

from lastfaces.errors import BadAsker, BadClaim, BadKeeper, BadNumber, CanBeTold, NoTruth
from lastfaces.functions import is_function
from lastfaces.houses import House
from lastfaces.partedhouses import check_claims, door_claim, is_claim, lets
from lastfaces.therule import goes_with
from lastfaces.things import is_number


def all_pairs(rooms):
    """Returns the ascending list of the pairs (one, other) of rooms, one ahead of other."""
    ascending = sorted(rooms)
    return list(combinations(ascending, 2))


def told_house(rooms, keeper):
    """Returns the house with a door between each two rooms for which a keeper lets the claim of it."""
    bare = House(rooms, [])
    if not is_function(keeper):
        raise BadKeeper(keeper)
    doors = []
    for one, other in all_pairs(bare.rooms()):
        answer = keeper(door_claim(bare.rooms(), one, other))
        if not isinstance(answer, bool):
            raise NoTruth(answer)
        if answer:
            doors.append((one, other))
    return House(rooms, doors)


def kept_claim(claim):
    """Returns a new claim with its dicts ascending."""
    placing, faces = claim
    return {person: placing[person] for person in sorted(placing)}, {room: faces[room] for room in sorted(faces)}


def all_houses(rooms):
    """Returns the list of all houses of some rooms."""
    lists = [[]]
    for pair in all_pairs(rooms):
        lists = [doors + more for doors in lists for more in [[], [pair]]]
    return [House(rooms, doors) for doors in lists]


def beat_asker(rooms, asker, many):
    """Returns the triple of the answers to an asker, as many as told, and of two unlike houses that have them all."""
    bare = House(rooms, [])
    if not is_function(asker):
        raise BadAsker(asker)
    pairs = all_pairs(bare.rooms())
    if not is_number(many):
        raise BadNumber(many)
    if many >= len(pairs):
        raise CanBeTold()
    houses = all_houses(bare.rooms())
    answers = []
    for _ in range(many):
        claim = asker([(kept_claim(told), truth) for told, truth in answers])
        if not is_claim(bare, claim):
            raise BadClaim(claim)
        claim = kept_claim(claim)
        letting = [goes_with(house, *claim) for house in houses]
        truth = 2 * letting.count(True) >= len(letting)
        houses = [house for house, answer in zip(houses, letting) if answer == truth]
        answers.append((claim, truth))
    return answers, houses[0], houses[1]


def fewest_house(rooms, claims):
    """Returns the first house with as few doors as can be that lets all claims, None if there is none."""
    bare = House(rooms, [])
    check_claims(bare, claims)
    pairs = all_pairs(bare.rooms())
    for many in range(len(pairs) + 1):
        doors = first_doors(bare.rooms(), claims, [], pairs, many)
        if doors is not None:
            return House(rooms, doors)
    return None


def first_doors(rooms, claims, doors, pairs, many):
    """Returns the first list of doors, some and so many others out of pairs, by which a house lets all claims.

    A door more never harms: so there is none if all pairs together are not enough.
    """
    if many > len(pairs) or not all(lets(House(rooms, doors + (pairs if many > 0 else [])), claims)):
        return None
    if many == 0:
        return doors
    told = first_doors(rooms, claims, doors + pairs[:1], pairs[1:], many - 1)
    return first_doors(rooms, claims, doors, pairs[1:], many) if told is None else told
