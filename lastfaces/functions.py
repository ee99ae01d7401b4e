"""Which things are functions."""

from lastfaces.errors import FaceError
from lastfaces.houses import House
from lastfaces.pieces import Piece
from lastfaces.towers import Tower


def is_function(thing):
    """Tells of any object whether it is a function: none of all other objects that are passed."""
    return thing is not None and not isinstance(thing, (int, str, list, tuple, dict, House, Tower, Piece, FaceError))
