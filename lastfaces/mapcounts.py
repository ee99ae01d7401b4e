"""How many maps go with a placing, chances of one that is drawn, and their numbers."""

from lastfaces.errors import BadNumber
from lastfaces.forestmaps import ForestMaps
from lastfaces.goingmaps import GoingMaps, all_guesses
from lastfaces.houses import check_room
from lastfaces.maps import check_placing
from lastfaces.therule import check_goes, last_lots
from lastfaces.things import fraction, is_number_below
from lastfaces.wants import ring_of_doors


def is_forest_of_few(house, placing):
    """Tells whether maps can be counted without telling them: with one person or two, without rings of doors."""
    return 1 <= len(placing) <= 2 and ring_of_doors(house) is None


def all_maps(house, placing):
    """Returns the list of all maps that go, ascending by their faces, rooms ascending, nobody ahead of all."""
    return GoingMaps(house, placing, all_guesses(house, placing)).all_maps()


def count_maps(house, placing):
    """Returns how many maps go with a placing."""
    return sum(list(maps_by_seen(house, placing).values()))


def maps_by_seen(house, placing):
    """Returns the dict from numbers of rooms that show somebody to how many maps have so many."""
    check_placing(house, placing)
    if is_forest_of_few(house, placing):
        row = ForestMaps(house, placing, {}).row()
    else:
        row = [0] * (len(house) + 1)
        for faces in all_maps(house, placing):
            row[len([room for room in faces if faces[room] is not None])] += 1
    return {seen: many for seen, many in enumerate(row) if many > 0}


def shown_counts(house, placing, room):
    """Returns the dict from all people, and None, to how many maps show them, or nobody, in a room."""
    faces_told = [*sorted(placing), None]
    if is_forest_of_few(house, placing):
        return {face: sum(ForestMaps(house, placing, {room: face}).row()) for face in faces_told}
    shown = [faces[room] for faces in all_maps(house, placing)]
    return {face: shown.count(face) for face in faces_told}


def shown_chances(house, placing, room):
    """Returns the pair of the dict from all people to the chances that a room shows them, and of that of nobody."""
    check_placing(house, placing)
    check_room(house, room)
    counts = shown_counts(house, placing, room)
    many = sum(list(counts.values()))
    return {person: fraction(counts[person], many) for person in sorted(placing)}, fraction(counts[None], many)


def mean_rooms(house, placing):
    """Returns the mean number of rooms that show somebody."""
    by_seen = maps_by_seen(house, placing)
    return fraction(sum([seen * by_seen[seen] for seen in by_seen]), sum(list(by_seen.values())))


def one_lot_chance(house, placing):
    """Returns the chance that there is one last lot at most."""
    many = count_maps(house, placing)
    if is_forest_of_few(house, placing):
        return fraction(sum(ForestMaps(house, placing, {}).row_as_one()), many)
    lots = [last_lots(house, placing, faces) for faces in all_maps(house, placing)]
    return fraction(len([told for told in lots if len(told) < 2]), many)


def map_numbered(house, placing, number):
    """Returns the map with a number among all that go with a placing."""
    check_placing(house, placing)
    maps = all_maps(house, placing)
    if not is_number_below(number, len(maps)):
        raise BadNumber(number)
    return maps[number]


def map_number(house, placing, faces):
    """Returns the number of a map among all that go with a placing."""
    check_goes(house, placing, faces)
    return all_maps(house, placing).index({room: faces[room] for room in house.rooms()})
