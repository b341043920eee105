"""Rows of openings and closings in stretches: questions of heights are answered by a table of the stretches."""

from tightwood.checks import check_place, check_stretch, is_whole
from tightwood.errors import NoPlace


def heights_of(text, begin):
    """The height behind each sign of a text, from the height at its begin on."""
    height = begin
    heights = []
    for sign in text:
        height += 1 if sign == "1" else -1
        heights.append(height)
    return heights


def check_height(height):
    if not is_whole(height):
        raise NoPlace("a height is a whole number")


class Heights:
    """A balanced row that never changes, cut into stretches by each kind in its own way.

    The table has for each stretch the height at its begin, its least and its greatest one. Beside it is kept how often
    each comes to its least: so what lies side by side is counted without a walk.
    """

    def __init__(self, length, table, often_least):
        self.length = length
        self.kept_table = table
        self.often_least = often_least

    def stretch(self, low, high):
        raise NotImplementedError("each kind tells the text from a place to ahead of another one")

    def is_opening(self, place):
        raise NotImplementedError("each kind tells whether a place opens")

    def opens_ahead(self, place):
        raise NotImplementedError("each kind tells how many openings stand ahead of a place")

    def opening(self, number):
        raise NotImplementedError("each kind tells the place of an opening")

    def stretch_at(self, place):
        raise NotImplementedError("each kind tells the number of the stretch at a place")

    def begin_of(self, number):
        raise NotImplementedError("each kind tells where a stretch begins, and where the last one ends")

    def size(self):
        return self.length

    def text(self):
        return self.stretch(0, self.length)

    def height(self, place):
        return 2 * self.opens_ahead(place) - place

    def partner(self, place):
        if self.is_opening(place):
            return self.next_at(place, self.height(place)) - 1
        return self.last_at(place + 1, self.height(place + 1))

    def round(self, place):
        depth = self.depth(place)
        return self.last_at(place, depth - 1) if depth > 0 else None

    def depth(self, place):
        return self.height(place if self.is_opening(place) else place + 1)

    def next_at(self, place, height):
        check_place(place, self.length)
        check_height(height)
        for low, high in self.parts(place, self.length):
            found = self.next_within(low, high, height) if self.may_meet(low, height) else None
            if found is not None:
                return found
        return None

    def last_at(self, place, height):
        check_place(place, self.length)
        check_height(height)
        for low, high in reversed(self.parts(0, place - 1)):
            found = self.last_within(low, high, height) if self.may_meet(low, height) else None
            if found is not None:
                return found
        # The parts begin beyond place 0.
        return 0 if place > 0 and height == 0 else None

    def lowest(self, low, high):
        check_stretch(low, high, self.length)
        own = self.height(low)
        least = min([own] + [self.least_within(begin, end) for begin, end in self.parts(low, high)])
        return (least, low if least == own else self.next_at(low, least))

    def many_level(self, low, high):
        """How many places from low to ahead of high are as high as low, where none of them is lower."""
        if low >= high:
            return 0
        height = self.height(low)
        return 1 + sum([self.often_within(begin, end, height) for begin, end in self.parts(low, high - 1)])

    def nth_level(self, low, nth):
        """The so-many-th place from low on, from 0, that is as high as low, where none up to it is lower."""
        if nth == 0:
            return low
        height = self.height(low)
        for begin, end in self.parts(low, self.length):
            often = self.often_within(begin, end, height)
            if nth <= often:
                return self.nth_within(begin, end, height, nth - 1)
            nth -= often
        return None

    def parts(self, low, high):
        """The places beyond low up to high, cut at the begins of stretches: each part as its own low and high."""
        if low >= high:
            return []
        cuts = [self.begin_of(number) for number in range(self.stretch_at(low) + 1, self.stretch_at(high - 1) + 1)]
        return list(zip([low] + cuts, cuts + [high]))

    def may_meet(self, low, height):
        row = self.kept_table[self.stretch_at(low)]
        return row[1] <= height <= row[2]

    def is_stretch(self, low, high):
        number = self.stretch_at(low)
        return low == self.begin_of(number) and high == self.begin_of(number + 1)

    def heights_within(self, low, high):
        """The heights at the places beyond low up to high."""
        return heights_of(self.stretch(low, high), self.height(low))

    def next_within(self, low, high, height):
        heights = self.heights_within(low, high)
        return low + 1 + heights.index(height) if height in heights else None

    def last_within(self, low, high, height):
        heights = self.heights_within(low, high)[::-1]
        return high - heights.index(height) if height in heights else None

    def nth_within(self, low, high, height, nth):
        heights = self.heights_within(low, high)
        return [place for place, one in enumerate(heights, start=low + 1) if one == height][nth]

    def least_within(self, low, high):
        if self.is_stretch(low, high):
            return self.kept_table[self.stretch_at(low)][1]
        return min(self.heights_within(low, high))

    def often_within(self, low, high, height):
        number = self.stretch_at(low)
        if height == self.kept_table[number][1] and self.is_stretch(low, high):
            return self.often_least[number]
        return self.heights_within(low, high).count(height) if self.may_meet(low, height) else 0
