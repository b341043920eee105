"""Woods in pieces, which are cut and grafted."""

from tightwood.checks import is_within
from tightwood.errors import NoDeed, NoGraft, TooLarge
from tightwood.openings import Openings
from tightwood.pieces import PiecedRow, pieces_of
from tightwood.woods import MOST_KNOTS, elders_of, row_of


class Shaped(Openings):
    """A wood that keeps its row in pieces, and the pieces that it had ahead of each deed."""

    def __init__(self, elders):
        Openings.__init__(self, PiecedRow(pieces_of(row_of(elders))))
        self.earlier = []

    def pieces(self):
        return [piece.signs for piece in self.pairs.kept_pieces]

    def sums(self):
        return [piece.kept_sums for piece in self.pairs.kept_pieces]

    def cut(self, k):
        low = self.opening(k)
        high = self.closing(k) + 1
        taken = self.pairs.stretch(low, high)
        self.replace_signs(low, high, "")
        return elders_of(taken)

    def graft(self, k, place, elders):
        many = self.many_tops() if k is None else self.many(k)
        if not is_within(place, 0, many):
            raise NoGraft("no place among the children")
        row = row_of(elders)
        if self.many_knots() + len(elders) > MOST_KNOTS:
            raise TooLarge("more knots than a wood may have")
        within = 0 if k is None else self.opening(k) + 1
        # Behind all children, too, the row is as high as ahead of the first.
        low = self.pairs.nth_level(within, place)
        self.replace_signs(low, low, row)

    def take_back(self):
        if len(self.earlier) == 0:
            raise NoDeed("no deed is there to be taken back")
        self.pairs = PiecedRow(self.earlier.pop())

    def replace_signs(self, low, high, text):
        self.earlier.append(self.pairs.kept_pieces)
        self.pairs = self.pairs.replaced(low, high, text)
