"""Woods by children counted: knot by knot as they open, the row tells how many children each one has."""

from tightwood.checks import check_knot
from tightwood.pairs import Pairs
from tightwood.woods import MARK_STEP, Wood, children_counted, counted_row, depths_of, look_at, thin_rest


def marked_depths(elders):
    depths = depths_of(elders)
    rest = thin_rest(depths)
    return dict([(k, depth) for k, depth in enumerate(depths) if depth % MARK_STEP == rest])


class Counted(Wood):
    """A wood that never changes, kept as its row by children counted.

    The row is paired by a 1 more ahead of it, and places within are those of the paired row. There the knot k stands
    for one pair: its closing is the so-many-th one, just ahead of the knot's own group; its opening, the knot's stem,
    is the sign that counts the knot in the group of its elder, from the right (the first child's stem is the last).
    """

    def __init__(self, elders):
        wood = look_at(elders)
        self.knots = len(wood)
        self.pairs = Pairs("1" + counted_row(children_counted(wood)))
        self.marks = marked_depths(wood)

    def many_knots(self):
        return self.knots

    def row(self):
        return self.pairs.text()[1:]

    def elders(self):
        many = [len(group) for group in self.row().split("0")]
        elders = []
        # Each knot waits once for each of its children that is to come.
        waiting = [-1] * many[0]
        for k in range(self.knots):
            elders.append(waiting.pop())
            waiting.extend([k] * many[k + 1])
        return elders

    def elder(self, k):
        group = self.pairs.closes_ahead(self.stem(k))
        return group - 1 if group > 0 else None

    def right(self, k):
        place = self.stem(k) - 1
        # At place 0 stands the 1 ahead of the row.
        return self.knot_of(place) if place > 0 and self.pairs.is_opening(place) else None

    def left(self, k):
        place = self.stem(k) + 1
        return self.knot_of(place) if self.pairs.is_opening(place) else None

    def many(self, k):
        check_knot(k, self.knots)
        return self.pairs.closing(k + 1) - self.pairs.closing(k) - 1

    def child(self, k, i):
        return self.knot_of(self.pairs.closing(k + 1) - 1 - i)

    def beneath(self, k):
        return self.behind(k) - k - 1

    def depth(self, k):
        steps = 0
        elder = self.elder(k)
        while elder is not None and k not in self.marks:
            steps += 1
            k = elder
            elder = self.elder(k)
        return steps + self.marks.get(k, 0)

    def child_place(self, k):
        stem = self.stem(k)
        return self.pairs.closing(self.pairs.closes_ahead(stem)) - 1 - stem

    def lies_beneath(self, k, other):
        check_knot(k, self.knots)
        check_knot(other, self.knots)
        return other <= k < self.behind(other)

    def behind(self, k):
        stretch = self.stretch(k)
        # Of so many knots all but the first are counted in the stretch, and each has its closing sign.
        return k + (stretch[1] - stretch[0] + 1) // 2

    def stretch(self, k):
        check_knot(k, self.knots)
        low = self.pairs.closing(k) + 1
        high = self.pairs.next_at(low, self.pairs.height(low) - 1)
        return (low - 1, high - 1)

    def stem(self, k):
        check_knot(k, self.knots)
        return self.pairs.partner(self.pairs.closing(k))

    def knot_of(self, stem):
        return self.pairs.closes_ahead(self.pairs.partner(stem))
