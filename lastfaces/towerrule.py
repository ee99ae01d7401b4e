"""The rule by which a map goes with a placing in a tower, walks built by it, and papers that show that none is."""

from lastfaces.climbs import Climbs, gone_up
from lastfaces.houses import some_fault
from lastfaces.maps import check_placed_map, seen_rooms
from lastfaces.therule import is_placed
from lastfaces.things import has_just, is_list, is_number_below
from lastfaces.towers import rooms_up, whole_house
from lastfaces.walks import turned_steps
from lastfaces.ways import way_by


def climbs_of(tower, placing, faces):
    """Returns what people can do in a tower: raises BadPlacing or BadMap for what is none."""
    check_placed_map(whole_house(tower), placing, faces)
    return Climbs(tower, placing, faces, {})


def tower_taken(tower, placing, faces):
    """Returns the ascending list of the rooms taken in at last."""
    climbs = climbs_of(tower, placing, faces)
    taken, _, _ = gone_up(climbs)
    return climbs.rooms_in(taken)


def floors_at_last(tower, placing, faces):
    """Returns the dict from all people to the indexes of the floors on which they are at last."""
    _, floors, _ = gone_up(climbs_of(tower, placing, faces))
    return floors


def tower_walk(tower, placing, faces):
    """Returns a walk (start, steps) that ends as a placing and a map tell, None if there is none."""
    if tower_why(tower, placing, faces) is not None:
        return None
    _, _, row = gone_up(climbs_of(tower, placing, faces))
    taken = list(placing.values())
    where = dict(placing)
    steps = []
    for person, room in row:
        way = way_by(lambda one: rooms_up(tower, one), taken + [room], where[person], room)
        steps.extend([(person, further) for further in way[1:]])
        where[person] = room
        taken.append(room)
    # Turned about in time, people begin where they stand at last, and first faces are last ones.
    return turned_steps(placing, steps)


def tower_why(tower, placing, faces):
    """Returns None if there is such a walk, else a paper that shows why there is none."""
    climbs = climbs_of(tower, placing, faces)
    for person in sorted(placing):
        if faces[placing[person]] != person:
            return "room", person
    taken, floors, _ = gone_up(climbs)
    some = climbs.rooms_in(taken)
    return ("floors", some, floors) if has_left_out(tower, faces, some) else None


def has_left_out(tower, faces, some):
    """Tells whether a room that shows somebody is not in some."""
    return any([room not in some for room in seen_rooms(whole_house(tower), faces)])


def is_tower_why(tower, placing, faces, thing):
    """Tells of any object whether it is a paper that shows that there is no such walk."""
    climbs = climbs_of(tower, placing, faces)
    if not is_list(thing) or not 2 <= len(thing) <= 3:
        return False
    if len(thing) == 2:
        return thing[0] == "room" and is_placed(placing, thing[1]) and faces[placing[thing[1]]] != thing[1]
    kind, some, floors = thing
    if kind != "floors" or some_fault(whole_house(tower), some) is not None:
        return False
    if not all([room in some for room in placing.values()]) or not has_left_out(tower, faces, some):
        return False
    return are_floors(tower, placing, floors) and are_stuck(climbs, floors, climbs.bits_of(some))


def are_floors(tower, placing, thing):
    """Tells of any object whether it is a dict from just the people of a placing to indexes of floors."""
    if not has_just(thing, list(placing)):
        return False
    return all([is_number_below(floor, len(tower.floors())) for floor in thing.values()])


def are_stuck(climbs, floors, taken):
    """Tells whether people can be on their floors, and can do nothing more, when some rooms are taken in."""
    for person, floor in floors.items():
        if not climbs.could_be_on(person, floor, taken) or climbs.open_rooms(person, floor, taken):
            return False
        if climbs.comes_up_to(person, floor, taken) is not None:
            return False
    return True
