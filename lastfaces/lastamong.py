"""Placings with which a map goes where some last rooms are known."""

from itertools import combinations

from lastfaces.errors import BadPerson, NotShown
from lastfaces.fields import Fields, Joined, check_lists
from lastfaces.lastrooms import in_two
from lastfaces.maps import seen_rooms, shown
from lastfaces.things import is_name
from lastfaces.ways import parts


def pieces_of(house, faces):
    """Returns the list of the Fields of each piece's people, None if somebody is shown in two pieces."""
    if in_two(house, faces) is not None:
        return None
    pieces = parts(house, seen_rooms(house, faces))
    return [Fields(house, faces, sorted({faces[room] for room in piece})) for piece in pieces]


def piece_placing(piece, lists):
    """Returns a placing of a piece's people that keeps lists, None if there is none."""
    joined = Joined(piece, lists)
    whole = joined.joined_by_all()
    return joined.placing_in(piece.everybody(), whole[0]) if whole else None


def is_kept_by_some(piece, lists):
    """Tells whether some placing of a piece's people keeps lists."""
    return len(Joined(piece, lists).joined_by_all()) > 0


def check_shown(house, faces, person):
    """Raises BadPerson for what is no name, then NotShown for who is not shown."""
    if not is_name(person):
        raise BadPerson(person)
    if person not in shown(house, faces):
        raise NotShown(person)


def last_among(house, faces, lists):
    """Returns a placing that keeps lists, None if there is none."""
    check_lists(house, faces, lists)
    pieces = pieces_of(house, faces)
    if pieces is None:
        return None
    placing = {}
    for piece in pieces:
        told = piece_placing(piece, lists)
        if told is None:
            return None
        placing.update(told)
    return {person: placing[person] for person in sorted(placing)}


def last_clash(house, faces, lists):
    """Returns None, or the first of the shortest lists of people for whom alone no placing keeps lists."""
    check_lists(house, faces, lists)
    pieces = pieces_of(house, faces)
    if pieces is None:
        return []
    clashes = [clash_in(piece, lists) for piece in pieces if not is_kept_by_some(piece, lists)]
    return min(clashes, key=lambda clash: (len(clash), clash)) if clashes else None


def clash_in(piece, lists):
    """Returns the first of the shortest lists of a piece's people for whom alone no placing of it keeps lists."""
    people = [person for person in piece.all_names() if person in lists]
    for many in range(len(people) + 1):
        for some in combinations(people, many):
            if not is_kept_by_some(piece, {person: lists[person] for person in some}):
                return list(some)
    return None


def standing(pieces, lists):
    """Returns the dict from all people to the lists of the rooms in which they stand by lists: some placing is."""
    told = {}
    for piece in pieces:
        for person in piece.all_names():
            told[person] = rooms_to_stand(piece, lists, person)
    return told


def rooms_to_stand(piece, lists, person):
    """Returns the ascending list of the rooms in which a piece's person stands by lists."""
    rooms = piece.choice(lists, person)
    return [room for room in rooms if is_kept_by_some(piece, {**lists, person: [room]})]


def can_stand(house, faces, lists, person):
    """Returns the ascending list of the rooms in which a person stands by lists."""
    check_lists(house, faces, lists)
    check_shown(house, faces, person)
    pieces = pieces_of(house, faces)
    if pieces is None or not all([is_kept_by_some(piece, lists) for piece in pieces]):
        return []
    return [room for piece in pieces if person in piece.all_names() for room in rooms_to_stand(piece, lists, person)]


def sure_last(house, faces, lists):
    """Returns the dict from the people that have one room alone by lists to it, None if there are no placings."""
    if last_among(house, faces, lists) is None:
        return None
    told = standing(pieces_of(house, faces), lists)
    return {person: told[person][0] for person in sorted(told) if len(told[person]) == 1}
