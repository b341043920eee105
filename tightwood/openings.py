"""What is told of a wood by the row in which knot by knot each one opens, and closes behind all that is beneath it."""

from tightwood.checks import check_from_nought, check_knot
from tightwood.woods import Wood, elders_of


class Openings(Wood):
    """A wood asked by its balanced row, whose pairs each kind keeps in its own way."""

    def __init__(self, pairs):
        self.pairs = pairs

    def many_knots(self):
        return self.pairs.size() // 2

    def elders(self):
        return elders_of(self.row())

    def row(self):
        return self.pairs.text()

    def opening(self, k):
        check_knot(k, self.many_knots())
        return self.pairs.opening(k)

    def closing(self, k):
        return self.pairs.partner(self.opening(k))

    def knot_at(self, place):
        return self.pairs.opens_ahead(place if self.pairs.is_opening(place) else self.pairs.partner(place))

    def elder(self, k):
        return self.up(k, 1)

    def first(self, k):
        return k + 1 if self.pairs.is_opening(self.opening(k) + 1) else None

    def last(self, k):
        place = self.closing(k) - 1
        # There the last child closes, but of a knot without children there is its own opening.
        return None if self.pairs.is_opening(place) else self.knot_at(place)

    def right(self, k):
        place = self.closing(k) + 1
        return self.knot_at(place) if place < self.pairs.size() and self.pairs.is_opening(place) else None

    def left(self, k):
        place = self.opening(k) - 1
        return self.knot_at(place) if place >= 0 and not self.pairs.is_opening(place) else None

    def many(self, k):
        return self.pairs.many_level(self.opening(k) + 1, self.closing(k))

    def child(self, k, i):
        return self.knot_at(self.pairs.nth_level(self.opening(k) + 1, i))

    def beneath(self, k):
        return (self.closing(k) - self.opening(k)) // 2

    def depth(self, k):
        return self.pairs.height(self.opening(k))

    def up(self, k, many):
        depth = self.depth(k)
        check_from_nought(many)
        if many == 0:
            return k
        if many > depth:
            return None
        return self.knot_at(self.pairs.last_at(self.opening(k), depth - many))

    def nearest(self, one, other):
        low = min(self.opening(one), self.opening(other))
        high = max(self.opening(one), self.opening(other))
        if low == high:
            return one
        # From beyond the first opening on: the row comes down to just within the one that goes round both.
        least = self.pairs.lowest(low + 1, high)
        return self.knot_at(self.pairs.last_at(least[1], least[0] - 1)) if least[0] > 0 else None

    def is_beneath(self, one, other):
        return self.opening(other) < self.opening(one) < self.closing(other)

    def top(self, i):
        check_from_nought(i)
        return self.knot_at(self.pairs.nth_level(0, i)) if i < self.many_tops() else None

    def many_tops(self):
        return self.pairs.many_level(0, self.pairs.size())
