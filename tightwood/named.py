"""Names on the knots of a wood by openings."""

from tightwood.checks import check_knot
from tightwood.counts import begins_of, first_that
from tightwood.errors import NoFit, NoName
from tightwood.orders import Shortcuts

LETTERS = "abcdefghijklmnopqrstuvwxyz"
MOST_LETTERS = 8


def is_name(thing):
    if not isinstance(thing, str) or len(thing) == 0 or len(thing) > MOST_LETTERS:
        return False
    return all([sign in LETTERS for sign in thing])


def check_name(name):
    if not is_name(name):
        raise NoName(None)


def check_names(names):
    for place, name in enumerate(names):
        if not is_name(name):
            raise NoName(place)


def stretches_of(names):
    """Of sorted names: each name once, with the place at which it begins and that ahead of which it ends."""
    begins = [place for place in range(len(names)) if place == 0 or names[place] != names[place - 1]]
    return [(names[begin], begin, end) for begin, end in zip(begins, begins[1:] + [len(names)])]


def namesakes_above(elders, names):
    """For each knot the nearest elder upwards that has the same name, or None."""
    told = []
    path = []
    # For each name its knots on the path.
    upward = {}
    for k, elder in enumerate(elders):
        while len(path) > 0 and path[-1] != elder:
            upward[names[path.pop()]].pop()
        path.append(k)
        alike = upward.setdefault(names[k], [])
        told.append(alike[-1] if len(alike) > 0 else None)
        alike.append(k)
    return tuple(told)


class Named:
    """A wood by openings with a name on each knot; neither ever changes.

    The knots stand in the order of their names. So a name's knots are a stretch of the order, rising, and a knot's name
    is found by the way back to its place.
    """

    def __init__(self, wood, names):
        check_names(names)
        if len(names) != wood.many_knots():
            raise NoFit("a name for each knot is needed, and no more")
        self.kept_wood = wood
        self.places = Shortcuts(sorted(range(len(names)), key=lambda k: names[k]))
        self.begins = begins_of(sorted(names))
        self.kept_stretches = stretches_of(sorted(names))
        self.spans = dict([(one[0], (one[1], one[2])) for one in self.kept_stretches])
        self.namesakes = namesakes_above(wood.elders(), names)

    def order(self):
        return self.knots_at(0, self.kept_wood.many_knots())

    def stretches(self):
        return list(self.kept_stretches)

    def name_of(self, k):
        check_knot(k, self.kept_wood.many_knots())
        number = self.begins.ahead(1, self.places.back(k) + 1) - 1
        return self.kept_stretches[number][0]

    def all_of(self, name):
        check_name(name)
        span = self.span_of(name)
        return self.knots_at(span[0], span[1])

    def many_beneath(self, k, name):
        span = self.span_beneath(k, name)
        return span[1] - span[0]

    def all_beneath(self, k, name):
        span = self.span_beneath(k, name)
        return self.knots_at(span[0], span[1])

    def next_of(self, k, name):
        self.check_both(k, name)
        place = self.first_from(k, name)
        return self.places.there(place) if place < self.span_of(name)[1] else None

    def elder_of(self, k, name):
        self.check_both(k, name)
        place = self.first_from(k, name) - 1
        if place < self.span_of(name)[0]:
            return None
        # Of all that have the name and stand ahead of k, an elder of k is this one or above it.
        knot = self.places.there(place)
        meeting = self.kept_wood.nearest(k, knot)
        while knot is not None and (meeting is None or knot > meeting):
            knot = self.namesakes[knot]
        return knot

    def check_both(self, k, name):
        check_knot(k, self.kept_wood.many_knots())
        check_name(name)

    def knots_at(self, low, high):
        return [self.places.there(place) for place in range(low, high)]

    def span_of(self, name):
        return self.spans.get(name, (0, 0))

    def span_beneath(self, k, name):
        self.check_both(k, name)
        behind = k + self.kept_wood.beneath(k) + 1
        return (self.first_from(k, name), self.first_from(behind, name))

    def first_from(self, k, name):
        """The first place of the name's span with a knot that is k or behind it; the span's end where there is none."""
        span = self.span_of(name)
        return first_that(span[0], span[1], lambda place: self.places.there(place) >= k)
