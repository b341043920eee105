"""Plain woods and balanced rows, walked knot by knot and sign by sign: what the program is held against."""


def all_balanced(many):
    """All balanced rows of so many pairs."""
    if many == 0:
        return [""]
    return [f"1{inner}0{behind}" for within in range(many) for inner in all_balanced(within)
            for behind in all_balanced(many - 1 - within)]


def all_woods(many):
    """All woods of so many knots, as elders."""
    return [plain_elders(row) for row in all_balanced(many)]


def small_woods(most=6):
    return [elders for many in range(most + 1) for elders in all_woods(many)]


def plain_elders(row):
    elders = []
    # The last knot so far of each depth; what opens at a height is beneath the last one of a depth less.
    latest = {-1: -1}
    for place, height in enumerate(plain_heights(row)[:-1]):
        if row[place] == "1":
            latest[height] = len(elders)
            elders.append(latest[height - 1])
    return elders


def states(seed):
    """Whole numbers without a pattern, always the same ones."""
    state = seed
    while True:
        state = (state * 1103515245 + 12345) % 2 ** 31
        yield state >> 16


def mixed_wood(many, seed=1, rise=45):
    """A wood in which each knot is put beneath the one ahead of it, or by chance (rise in 100) higher and higher."""
    chance = states(seed)
    elders = []
    for k in range(many):
        elder = k - 1
        while elder != -1 and next(chance) % 100 < rise:
            elder = elders[elder]
        elders.append(elder)
    return elders


def chain(many):
    return list(range(-1, many - 1))


def all_tops(many):
    return [-1] * many


def comb(many):
    """A chain each of whose knots has a leaf to the left of the next one."""
    return [-1] + [k - 1 if k % 2 == 1 else k - 2 for k in range(1, many)]


def brush(many):
    """One knot with all others as its children."""
    return [-1] + [0] * (many - 1)


def large_woods():
    """Woods of hundreds of knots and of 4000."""
    woods = [chain(300), all_tops(300), brush(300), comb(301), mixed_wood(700, 3), mixed_wood(500, 5, 60)]
    return woods + [chain(4000), all_tops(4000), mixed_wood(4000)]


def plain_heights(row):
    heights = [0]
    for sign in row:
        heights.append(heights[-1] + (1 if sign == "1" else -1))
    return heights


def plain_partners(row):
    partners = [None] * len(row)
    opened = []
    for place, sign in enumerate(row):
        if sign == "1":
            opened.append(place)
        else:
            partners[place] = opened.pop()
            partners[partners[place]] = place
    return partners


class PlainWood:
    """Lists with the answer for each knot by opening."""

    def __init__(self, elders):
        self.many_knots = len(elders)
        self.elders = list(elders)
        self.children = [[] for elder in elders]
        self.tops = []
        self.depths = []
        self.places = []
        for k, elder in enumerate(elders):
            family = self.tops if elder == -1 else self.children[elder]
            self.places.append(len(family))
            family.append(k)
            self.depths.append(0 if elder == -1 else self.depths[elder] + 1)
        self.beneath = [0] * len(elders)
        for k in range(len(elders) - 1, -1, -1):
            if elders[k] != -1:
                self.beneath[elders[k]] += self.beneath[k] + 1
        self.by_levels = sorted(range(len(elders)), key=lambda k: (self.depths[k], k))

    def family(self, k):
        return self.tops if self.elders[k] == -1 else self.children[self.elders[k]]

    def elder(self, k):
        return None if self.elders[k] == -1 else self.elders[k]

    def first(self, k):
        return self.children[k][0] if self.children[k] else None

    def last(self, k):
        return self.children[k][-1] if self.children[k] else None

    def right(self, k):
        behind = self.family(k)[self.places[k] + 1:]
        return behind[0] if behind else None

    def left(self, k):
        return self.family(k)[self.places[k] - 1] if self.places[k] > 0 else None

    def many(self, k):
        return len(self.children[k])

    def upward(self, k):
        """The knot, its elder, and so on."""
        way = []
        while k != -1:
            way.append(k)
            k = self.elders[k]
        return way

    def counted_row(self, order):
        return "".join(["1" * many + "0" for many in [len(self.tops)] + [len(self.children[k]) for k in order]])


def plain_row(elders):
    """The row by opening: behind a knot's opening close all that the next knot is not beneath."""
    depths = PlainWood(elders).depths
    return "".join(["1" + "0" * (own + 1 - after) for own, after in zip(depths, depths[1:] + [0])])


def plain_cut(elders, k):
    """What is taken out with the knot, and what is left, both as elders."""
    behind = k + PlainWood(elders).beneath[k] + 1
    taken = [-1] + [elder - k for elder in elders[k + 1:behind]]
    return taken, elders[:k] + [elder if elder < k else elder - len(taken) for elder in elders[behind:]]


def graft_knot(elders, k, place):
    """The number that the first knot gets which is grafted there."""
    plain = PlainWood(elders)
    children = plain.tops if k is None else plain.children[k]
    if place < len(children):
        return children[place]
    return len(elders) if k is None else k + plain.beneath[k] + 1


def plain_graft(elders, k, place, other):
    first = graft_knot(elders, k, place)
    grafted = [first + elder if elder != -1 else (-1 if k is None else k) for elder in other]
    return elders[:first] + grafted + [elder if elder < first else elder + len(other) for elder in elders[first:]]
