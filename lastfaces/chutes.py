"""Where people of a tower can have begun, and which chutes and floors they surely came by."""

from lastfaces.climbs import Climbs, gone_up
from lastfaces.errors import NotPlaced
from lastfaces.maps import check_placed_map
from lastfaces.therule import is_placed
from lastfaces.towerrule import climbs_of, has_left_out, tower_why
from lastfaces.towers import Tower, floor_of, whole_house


def tower_begins(tower, placing, faces):
    """Returns the dict from all people to the rooms in which they can have begun, None if there are no walks."""
    if tower_why(tower, placing, faces) is not None:
        return None
    climbs = climbs_of(tower, placing, faces)
    taken, floors, _ = gone_up(climbs)
    return {person: climbs.rooms_in(climbs.come_to(person, floors[person], taken)) for person in floors}


def needless_chutes(tower, placing, faces):
    """Returns the ascending list of the chutes without each of which there is a walk still, None if there is none."""
    if tower_why(tower, placing, faces) is not None:
        return None
    return [chute for chute in tower.chutes() if tower_why(without_chute(tower, chute), placing, faces) is None]


def without_chute(tower, chute):
    """Returns the tower without one of its chutes."""
    return Tower(tower.floors(), tower.landings(), [kept for kept in tower.chutes() if kept != chute])


def sure_floors(tower, placing, faces, person):
    """Returns the ascending list of the floors on which a person was in all walks, None if there are no walks."""
    check_placed_map(whole_house(tower), placing, faces)
    if not is_placed(placing, person):
        raise NotPlaced(person)
    if tower_why(tower, placing, faces) is not None:
        return None
    floors = range(len(tower.floors()))
    return [floor for floor in floors if is_sure(tower, placing, faces, person, floor)]


def is_sure(tower, placing, faces, person, floor):
    """Tells whether a person was on a floor in all walks that there are."""
    rooms = tower.floors()[floor].rooms()
    if floor_of(tower, placing[person]) == floor or any([faces[room] == person for room in rooms]):
        return True
    climbs = Climbs(tower, placing, faces, {person: rooms})
    taken, _, _ = gone_up(climbs)
    return has_left_out(tower, faces, climbs.rooms_in(taken))
