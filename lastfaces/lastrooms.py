"""Placings with which a map goes where nothing is known of last rooms."""

from lastfaces.maps import seen_rooms, shown
from lastfaces.ways import parts, reached


def some_last(house, faces):
    """Returns a placing with which a map goes, None if there is none."""
    if in_two(house, faces) is not None:
        return None
    seen = seen_rooms(house, faces)
    placing = {}
    for piece in parts(house, seen):
        # Each room behind the first one is beside one ahead: so all that is taken in stays one lot.
        for room in reached(house, seen, piece[0]):
            placing.setdefault(faces[room], room)
    return {person: placing[person] for person in sorted(placing)}


def in_two(house, faces):
    """Returns the first person shown in two pieces, with its first rooms in the first two of these, else None."""
    people = shown(house, faces)
    pieces = parts(house, seen_rooms(house, faces))
    for person in people:
        firsts = []
        for piece in pieces:
            firsts.extend([room for room in piece if faces[room] == person][:1])
        if len(firsts) > 1:
            return person, firsts[0], firsts[1]
    return None
