"""Walks through towers, by doors and down chutes."""

from lastfaces.towers import rooms_down, whole_house
from lastfaces.walks import check_steps, faces_behind, is_start, stands_behind, steps_fault


def check_tower_walk(tower, start, steps):
    """Raises BadStart for what is no start, then BadSteps for what cannot be gone from it."""
    check_steps(whole_house(tower), lambda room: rooms_down(tower, room), start, steps)


def is_tower_walk(tower, start, steps):
    """Tells of any two objects whether they are a start and steps that can be gone one behind another."""
    if not is_start(whole_house(tower), start):
        return False
    return steps_fault(lambda room: rooms_down(tower, room), start, steps) is None


def tower_stands(tower, start, steps):
    """Returns the dict from all people to the rooms where they are at last."""
    check_tower_walk(tower, start, steps)
    return stands_behind(start, steps)


def tower_faces(tower, start, steps):
    """Returns the dict from all rooms to who stands there at last, else went out of it last, else None."""
    check_tower_walk(tower, start, steps)
    return faces_behind(whole_house(tower), start, steps)
