"""Woods by openings, kept in words of bits."""

from tightwood.openings import Openings
from tightwood.pairs import Pairs
from tightwood.woods import row_of


class Opened(Openings):
    """A wood that never changes."""

    def __init__(self, elders):
        Openings.__init__(self, Pairs(row_of(elders)))
