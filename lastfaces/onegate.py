"""Pieces with one gate: rows that tell all that they do, and pieces told by rows."""

from lastfaces.builders import Builder
from lastfaces.errors import BadRows, NotOneGate
from lastfaces.pieces import Piece, Within, check_piece, outside_names
from lastfaces.things import names_fault, new_names


def gate_rows(piece):
    """Returns the dict from all tuples of outside names to who stands within and is seen at the gate if these come."""
    check_piece(piece)
    if len(piece.gates()) != 1:
        raise NotOneGate()
    names = outside_names(piece)
    placing = piece.placing()
    new = new_names(1, names + list(placing))
    within = Within(piece)
    gate = piece.gates()[0]
    rows = {}
    for some in all_tuples(names):
        given = {gate: list(some) + new}
        seen = within.seen_by(within.lots(given), given)[gate]
        rows[some] = [person for person in seen if person in placing]
    return rows


def all_tuples(names):
    """Returns the ascending list of all ascending tuples of some names, these ascending."""
    told = [()]
    for name in names:
        told.extend([(*some, name) for some in list(told)])
    return sorted(told)


def are_ascending(thing):
    """Tells of any object whether it is an ascending list of unlike names."""
    return names_fault(thing) is None and list(thing) == sorted(thing)


def is_rows(thing):
    """Tells of any object whether it is rows: a dict from all tuples of some names to lists of other names."""
    if not isinstance(thing, dict) or not all([isinstance(key, tuple) and are_ascending(key) for key in thing]):
        return False
    names = names_in(thing)
    if len(thing) != 1 << len(names) or not all([are_ascending(people) for people in thing.values()]):
        return False
    if any([person in names for people in thing.values() for person in people]):
        return False
    if any([is_less(thing, key, name) for key in thing for name in names]):
        return False
    return len(thing[()]) > 0 or opening_names(thing) != [] or names == []


def names_in(rows):
    """Returns the ascending list of the names in the tuples of rows."""
    return sorted({name for key in rows for name in key})


def is_less(rows, key, name):
    """Tells whether somebody is in the list of a tuple, but not in that of the tuple with one name more."""
    more = rows[tuple(sorted(set([*key, name])))]
    return not all([person in more for person in rows[key]])


def opening_names(rows):
    """Returns the ascending list of the names that stand in each tuple whose list is not empty."""
    keys = [key for key in rows if len(rows[key]) > 0]
    return [name for name in names_in(rows) if all([name in key for key in keys])]


def least_tuples(rows, person):
    """Returns the ascending list of the tuples in whose lists a person is, but not without one of their names."""
    told = []
    for key in sorted(rows):
        fewer = [tuple([other for other in key if other != name]) for name in key]
        if person in rows[key] and not any([person in rows[less] for less in fewer]):
            told.append(key)
    return told


def told_piece(rows):
    """Returns a piece with one gate that has these rows, whole with all names given, nobody else standing in it."""
    if not is_rows(rows):
        raise BadRows(rows)
    builder = Builder([])
    at_once = list(rows[()])
    if at_once:
        opening = None
        gate = builder.build_for(at_once[0], [])
        for person in at_once[1:]:
            builder.build_for(person, [gate])
    else:
        # Whoever comes in has to be shown at the gate.
        opening = min(opening_names(rows), default=None)
        gate = builder.build(opening, [])
    names = names_in(rows)
    for person in rows[tuple(names)]:
        if person not in at_once:
            build_ways(builder, gate, opening, person, least_tuples(rows, person))
    shown = list(builder.faces().values())
    for name in names:
        if name not in shown:
            builder.build(name, [gate])
    return Piece(builder.house(), [gate], builder.placing(), builder.faces())


def build_ways(builder, gate, opening, person, tuples):
    """Builds a room for a person, and for each tuple a way to it from the gate that just all of its names open."""
    stood = builder.build_for(person, [])
    for names in tuples:
        near = gate
        for name in names:
            if name != opening:
                near = builder.build(name, [near])
        builder.link(near, stood)
