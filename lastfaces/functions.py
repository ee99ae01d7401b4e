"""Which things are functions."""

from lastfaces.errors import FaceError
from lastfaces.houses import House
from lastfaces.inns import Inn
from lastfaces.pieces import Piece
from lastfaces.towers import Tower


def is_function(thing):
    """Tells of any object whether it is a function: none of all other objects that are passed."""
    if thing is None or isinstance(thing, (int, str, list, tuple, dict)):
        return False
    return not isinstance(thing, (House, Tower, Piece, Inn, FaceError))
