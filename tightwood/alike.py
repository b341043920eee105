"""Woods of whatever kinds, held against one another."""

PAPER = ("elder", "first", "last", "left", "right", "many", "beneath", "depth")


def own_number(wood, k):
    return wood.own_number(k)


def open_number(wood, k):
    return wood.open_number(k)


def paper_of(wood, k):
    own = wood.own_number(k)
    knots = [wood.elder(own), wood.first(own), wood.last(own), wood.left(own), wood.right(own)]
    numbers = [None if knot is None else wood.open_number(knot) for knot in knots]
    return tuple(numbers + [wood.many(own), wood.beneath(own), wood.depth(own)])


def same_shape(one, other):
    return first_unlike(one, other) is None


def first_unlike(one, other):
    elders = one.elders()
    others = other.elders()
    fewer = min(len(elders), len(others))
    unlike = [k for k in range(fewer) if elders[k] != others[k]]
    if len(unlike) > 0:
        return unlike[0]
    return None if len(elders) == len(others) else fewer
