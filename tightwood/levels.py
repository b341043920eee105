"""Woods by levels: knots are numbered level by level, and the row tells how many children each one has."""

from tightwood.bits import Bits
from tightwood.checks import check_from_nought, check_knot
from tightwood.counts import Counts, begins_of
from tightwood.orders import Shortcuts
from tightwood.woods import MARK_STEP, Wood, children_counted, counted_row, depths_of, level_order, look_at, thin_rest


def level_row(elders, order):
    many = children_counted(elders)
    return counted_row(many[:1] + [many[k + 1] for k in order])


def widest_of(depths):
    if len(depths) == 0:
        return None
    many = [0] * (max(depths) + 1)
    for depth in depths:
        many[depth] += 1
    return many.index(max(many))


class Levelled(Wood):
    """A wood that never changes, kept as its row by levels.

    From a number one goes down to where its children begin, or would begin. The leaps tell for some knots where one
    comes to by MARK_STEP steps, and what is left below (left_below), so that no question goes down far step by step.
    """

    def __init__(self, elders):
        wood = look_at(elders)
        depths = depths_of(wood)
        order = level_order(depths)
        self.knots = len(wood)
        self.bits = Bits(level_row(wood, order))
        self.counts = Counts(self.bits)
        # One goes there from a number by levels to that by opening.
        self.places = Shortcuts(order)
        self.begins = begins_of(sorted(depths))
        self.level_count = max(depths, default=-1) + 1
        self.widest_level = widest_of(depths)
        self.leaps = {}
        self.mark_leaps(sorted(depths))

    def many_knots(self):
        return self.knots

    def row(self):
        return self.bits.text()

    def elders(self):
        firsts = [self.down(k) for k in range(self.knots + 1)]
        elders = []
        # What waits is a knot by levels with its elder by opening; the leftmost waits last.
        waiting = [(k, -1) for k in range(firsts[0] - 1, -1, -1)]
        while len(waiting) > 0:
            one = waiting.pop()
            number = len(elders)
            elders.append(one[1])
            waiting.extend([(k, number) for k in range(firsts[one[0] + 1] - 1, firsts[one[0]] - 1, -1)])
        return elders

    def elder(self, k):
        group = self.counts.ahead(0, self.own_place(k))
        return group - 1 if group > 0 else None

    def right(self, k):
        return k + 1 if self.bits.bit(self.own_place(k) + 1) == 1 else None

    def left(self, k):
        return k - 1 if self.child_place(k) > 0 else None

    def many(self, k):
        check_knot(k, self.knots)
        return self.down(k + 1) - self.down(k)

    def child(self, k, i):
        return self.down(k) + i

    def beneath(self, k):
        check_knot(k, self.knots)
        return self.left_below(k) - self.left_below(k + 1)

    def depth(self, k):
        check_knot(k, self.knots)
        return self.begins.ahead(1, k + 1) - 1

    def level(self, deep):
        check_from_nought(deep)
        if deep >= self.level_count:
            return None
        high = self.begins.place_of(1, deep + 1) if deep + 1 < self.level_count else self.knots
        return (self.begins.place_of(1, deep), high)

    def level_of(self, k, deep):
        check_knot(k, self.knots)
        check_from_nought(deep)
        if deep >= self.level_count:
            return None
        low = self.far_down(k, deep)
        high = self.far_down(k + 1, deep)
        return (low, high) if low < high else None

    def levels(self):
        return self.level_count

    def widest(self):
        return self.widest_level

    def child_place(self, k):
        place = self.own_place(k)
        closing = self.counts.last_ahead(0, place)
        return place if closing is None else place - closing - 1

    def own_number(self, k):
        check_knot(k, self.knots)
        return self.places.back(k)

    def open_number(self, k):
        check_knot(k, self.knots)
        return self.places.there(k)

    def own_place(self, k):
        check_knot(k, self.knots)
        return self.counts.place_of(1, k)

    def down(self, number):
        """How many knots are no child of this one or of one behind it: so the number of its first child, if any."""
        return self.counts.place_of(0, number) - number

    def far_down(self, number, steps):
        while steps > 0:
            if steps >= MARK_STEP and number in self.leaps:
                number = self.leaps[number][0]
                steps -= MARK_STEP
            else:
                number = self.down(number)
                steps -= 1
        return number

    def left_below(self, number):
        """The knots from one step down on, and those from two steps down on, and so forth, all counted together.

        So what a knot has more of them than the one behind it lies beneath it.
        """
        left = 0
        while number < self.knots:
            if number in self.leaps:
                return left + self.leaps[number][1]
            number = self.down(number)
            left += self.knots - number
        return left

    def mark_leaps(self, depths):
        rest = thin_rest(depths)
        # Each leap is found by the deeper ones.
        for number in range(self.knots - 1, -1, -1):
            if depths[number] % MARK_STEP == rest:
                self.leaps[number] = (self.far_down(number, MARK_STEP), self.left_below(number))
