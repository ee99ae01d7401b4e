"""Claims of people that they never were in rooms, and how many of them can be true."""

from itertools import combinations

from lastfaces.errors import BadClaims
from lastfaces.houses import is_room
from lastfaces.maps import check_placed_map
from lastfaces.mustrooms import can_keep
from lastfaces.shylots import ShyLots
from lastfaces.therule import check_goes, is_placed
from lastfaces.things import is_list, is_pair


def is_away_claim(house, placing, thing):
    """Tells of any object whether it is a pair of a person of a placing and another room than where it stands."""
    if not is_pair(thing) or not is_placed(placing, thing[0]) or not is_room(house, thing[1]):
        return False
    return placing[thing[0]] != thing[1]


def check_away_claims(house, placing, faces, claims):
    """Raises BadPlacing, BadMap, BadClaims or NoWalks for the first thing that is wrong."""
    check_placed_map(house, placing, faces)
    if not is_list(claims):
        raise BadClaims(0)
    for index, claim in enumerate(claims):
        if not is_away_claim(house, placing, claim):
            raise BadClaims(index)
    check_goes(house, placing, faces)


def are_true(lots, claims):
    """Tells whether in some walk all of some claims are true."""
    shy = {}
    for person, room in claims:
        rooms = shy.setdefault(person, [])
        if room not in rooms:
            rooms.append(room)
    return can_keep(lots, shy)


def claims_can_be(house, placing, faces, claims):
    """Tells whether in some walk all claims are true."""
    check_away_claims(house, placing, faces, claims)
    return are_true(ShyLots(house, placing, faces), claims)


def claims_clash(house, placing, faces, claims):
    """Returns the first of the shortest ascending lists of indexes whose claims are never all true, None for none."""
    check_away_claims(house, placing, faces, claims)
    lots = ShyLots(house, placing, faces)
    indexes = list(range(len(claims)))
    for many in range(1, len(claims) + 1):
        for some in combinations(indexes, many):
            if not are_true(lots, [claims[index] for index in some]):
                return list(some)
    return None


def most_claims(house, placing, faces, claims):
    """Returns the greatest number of claims that can all be true."""
    check_away_claims(house, placing, faces, claims)
    lots = ShyLots(house, placing, faces)
    indexes = list(range(len(claims)))
    for fewer in range(len(claims)):
        for out in combinations(indexes, fewer):
            if are_true(lots, [claims[index] for index in indexes if index not in out]):
                return len(claims) - fewer
    return 0
