"""Plain woods, told by their elders, and what every kind of a wood answers."""

from tightwood.checks import check_from_nought, check_knot, is_whole
from tightwood.errors import NoRow, NoWood
from tightwood.pairs import check_row

MOST_KNOTS = 4000
MOST_SIGNS = 8000
MARK_STEP = 16


def look_at(elders):
    if not isinstance(elders, list):
        raise NoWood(0)
    # What a knot may have as its elder, rising: nought but the knot ahead of it and all above that one.
    path = [-1]
    for k, elder in enumerate(elders):
        if k == MOST_KNOTS or not is_whole(elder) or elder < -1:
            raise NoWood(k)
        while path[-1] > elder:
            path.pop()
        if path[-1] != elder:
            raise NoWood(k)
        path.append(k)
    return list(elders)


def row_of(elders):
    signs = []
    still_opened = 0
    for depth in depths_of(look_at(elders)):
        signs.append("0" * (still_opened - depth) + "1")
        still_opened = depth + 1
    signs.append("0" * still_opened)
    return "".join(signs)


def elders_of(text):
    check_row(text)
    if len(text) > MOST_SIGNS:
        raise NoRow(MOST_SIGNS)
    elders = []
    path = [-1]
    for sign in text:
        if sign == "1":
            elders.append(path[-1])
            path.append(len(elders) - 1)
        else:
            path.pop()
    return elders


def depths_of(elders):
    depths = []
    for elder in elders:
        depths.append(0 if elder == -1 else depths[elder] + 1)
    return depths


def level_order(depths):
    """The knots by opening in their order by levels: within a depth that is the order of opening."""
    return sorted(range(len(depths)), key=lambda k: depths[k])


def children_counted(elders):
    """How many knots have no elder, and how many children each knot has."""
    many = [0] * (len(elders) + 1)
    for elder in elders:
        many[elder + 1] += 1
    return many


def counted_row(many):
    return "".join(["1" * one + "0" for one in many])


def thin_rest(depths):
    """The rest by MARK_STEP that the fewest depths leave.

    So marks on the knots of just such depths are few, and who goes up or down from any knot soon comes to one.
    """
    many = [0] * MARK_STEP
    for depth in depths:
        many[depth % MARK_STEP] += 1
    return many.index(min(many))


class Wood:
    """What every kind of a wood answers, its knots numbered by its own order; child is asked for children there are."""

    def many_knots(self):
        raise NotImplementedError("each kind tells how many knots it has")

    def elders(self):
        raise NotImplementedError("each kind tells its elders")

    def row(self):
        raise NotImplementedError("each kind tells its row")

    def elder(self, k):
        raise NotImplementedError("each kind tells a knot's elder")

    def first(self, k):
        return self.nth(k, 0)

    def last(self, k):
        many = self.many(k)
        return self.child(k, many - 1) if many > 0 else None

    def right(self, k):
        raise NotImplementedError("each kind tells the one to the right")

    def left(self, k):
        raise NotImplementedError("each kind tells the one to the left")

    def many(self, k):
        raise NotImplementedError("each kind tells how many children a knot has")

    def child(self, k, i):
        raise NotImplementedError("each kind tells the children that there are")

    def nth(self, k, i):
        many = self.many(k)
        check_from_nought(i)
        return self.child(k, i) if i < many else None

    def beneath(self, k):
        raise NotImplementedError("each kind tells how many knots are beneath one")

    def depth(self, k):
        raise NotImplementedError("each kind tells a knot's depth")

    def own_number(self, k):
        """Of a number by opening that of its own order; each kind tells it that does not number by opening."""
        check_knot(k, self.many_knots())
        return k

    def open_number(self, k):
        """The other way about."""
        check_knot(k, self.many_knots())
        return k
