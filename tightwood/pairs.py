"""Balanced rows of openings and closings, asked by a table: no question walks through more than a few stretches."""

from tightwood.bits import Bits
from tightwood.checks import check_place, check_stretch, is_whole
from tightwood.counts import Counts
from tightwood.errors import NoPlace, NoRow

MOST_SIGNS = 8192
STRETCH_BITS = 256


def check_row(text):
    if not isinstance(text, str):
        raise NoRow(0)
    height = 0
    for place, sign in enumerate(text):
        height += 1 if sign == "1" else -1
        if sign not in "01" or height < 0 or place == MOST_SIGNS:
            raise NoRow(place)
    if height > 0:
        raise NoRow(len(text))


def check_height(height):
    if not is_whole(height):
        raise NoPlace("a height is a whole number")


def parts_of(low, high):
    """The places beyond low up to high, cut at the begins of stretches: each part as its own low and high."""
    if low >= high:
        return []
    cuts = list(range((low // STRETCH_BITS + 1) * STRETCH_BITS, high, STRETCH_BITS))
    return list(zip([low] + cuts, cuts + [high]))


class Pairs:
    """A balanced row that never changes, with its table."""

    def __init__(self, text):
        check_row(text)
        self.length = len(text)
        self.bits = Bits(text)
        self.counts = Counts(self.bits)
        heights = [self.heights_within(low, high) for low, high in parts_of(0, self.length)]
        begins = [self.height(number * STRETCH_BITS) for number in range(len(heights))]
        self.kept_table = tuple([(begin, min(some), max(some)) for begin, some in zip(begins, heights)])
        # How often each stretch comes to its least height: so what lies side by side is counted without a walk.
        self.often_least = tuple([some.count(min(some)) for some in heights])

    def size(self):
        return self.length

    def text(self):
        return self.bits.text()

    def table(self):
        return self.kept_table

    def is_opening(self, place):
        return self.bits.bit(place) == 1

    def height(self, place):
        return 2 * self.counts.ahead(1, place) - place

    def partner(self, place):
        if self.is_opening(place):
            return self.next_at(place, self.height(place)) - 1
        return self.last_at(place + 1, self.height(place + 1))

    def round(self, place):
        depth = self.depth(place)
        return self.last_at(place, depth - 1) if depth > 0 else None

    def depth(self, place):
        return self.height(place if self.is_opening(place) else place + 1)

    def opens_ahead(self, place):
        return self.counts.ahead(1, place)

    def closes_ahead(self, place):
        return self.counts.ahead(0, place)

    def opening(self, number):
        return self.counts.place_of(1, number)

    def closing(self, number):
        return self.counts.place_of(0, number)

    def next_at(self, place, height):
        check_place(place, self.length)
        check_height(height)
        for low, high in parts_of(place, self.length):
            found = self.next_within(low, high, height) if self.may_meet(low, height) else None
            if found is not None:
                return found
        return None

    def last_at(self, place, height):
        check_place(place, self.length)
        check_height(height)
        for low, high in reversed(parts_of(0, place - 1)):
            found = self.last_within(low, high, height) if self.may_meet(low, height) else None
            if found is not None:
                return found
        # The parts begin beyond place 0.
        return 0 if place > 0 and height == 0 else None

    def lowest(self, low, high):
        check_stretch(low, high, self.length)
        own = self.height(low)
        least = min([own] + [self.least_within(begin, end) for begin, end in parts_of(low, high)])
        return (least, low if least == own else self.next_at(low, least))

    def many_level(self, low, high):
        """How many places from low to ahead of high are as high as low, where none of them is lower."""
        if low >= high:
            return 0
        height = self.height(low)
        return 1 + sum([self.often_within(begin, end, height) for begin, end in parts_of(low, high - 1)])

    def nth_level(self, low, nth):
        """The so-many-th place from low on, from 0, that is as high as low, where none up to it is lower."""
        if nth == 0:
            return low
        height = self.height(low)
        for begin, end in parts_of(low, self.length):
            often = self.often_within(begin, end, height)
            if nth <= often:
                return self.nth_within(begin, end, height, nth - 1)
            nth -= often
        return None

    def may_meet(self, low, height):
        row = self.kept_table[low // STRETCH_BITS]
        return row[1] <= height <= row[2]

    def is_stretch(self, low, high):
        return low % STRETCH_BITS == 0 and high == min(low + STRETCH_BITS, self.length)

    def heights_within(self, low, high):
        """The heights at the places beyond low up to high."""
        height = self.height(low)
        heights = []
        for sign in self.bits.stretch(low, high):
            height += 1 if sign == "1" else -1
            heights.append(height)
        return heights

    def next_within(self, low, high, height):
        heights = self.heights_within(low, high)
        return low + 1 + heights.index(height) if height in heights else None

    def last_within(self, low, high, height):
        heights = self.heights_within(low, high)[::-1]
        return high - heights.index(height) if height in heights else None

    def nth_within(self, low, high, height, nth):
        heights = self.heights_within(low, high)
        return [place for place, one in enumerate(heights, start=low + 1) if one == height][nth]

    def least_within(self, low, high):
        if self.is_stretch(low, high):
            return self.kept_table[low // STRETCH_BITS][1]
        return min(self.heights_within(low, high))

    def often_within(self, low, high, height):
        number = low // STRETCH_BITS
        if height == self.kept_table[number][1] and self.is_stretch(low, high):
            return self.often_least[number]
        return self.heights_within(low, high).count(height) if self.may_meet(low, height) else 0
