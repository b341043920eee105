"""Balanced rows of openings and closings, asked by a table: no question walks through more than a few stretches."""

from tightwood.bits import Bits
from tightwood.counts import Counts
from tightwood.errors import NoRow
from tightwood.heights import Heights, heights_of

MOST_SIGNS = 8192
STRETCH_BITS = 256


def check_row(text):
    if not isinstance(text, str):
        raise NoRow(0)
    height = 0
    for place, sign in enumerate(text):
        height += 1 if sign == "1" else -1
        if sign not in "01" or height < 0 or place == MOST_SIGNS:
            raise NoRow(place)
    if height > 0:
        raise NoRow(len(text))


class Pairs(Heights):
    """A balanced row kept in words of bits, cut into stretches of one size."""

    def __init__(self, text):
        check_row(text)
        self.bits = Bits(text)
        self.counts = Counts(self.bits)
        lows = list(range(0, len(text), STRETCH_BITS))
        begins = [self.height(low) for low in lows]
        heights = [heights_of(text[low:low + STRETCH_BITS], begin) for low, begin in zip(lows, begins)]
        table = [(begin, min(some), max(some)) for begin, some in zip(begins, heights)]
        Heights.__init__(self, len(text), tuple(table), [some.count(min(some)) for some in heights])

    def table(self):
        return self.kept_table

    def stretch(self, low, high):
        return self.bits.stretch(low, high)

    def is_opening(self, place):
        return self.bits.bit(place) == 1

    def opens_ahead(self, place):
        return self.counts.ahead(1, place)

    def closes_ahead(self, place):
        return self.counts.ahead(0, place)

    def opening(self, number):
        return self.counts.place_of(1, number)

    def closing(self, number):
        return self.counts.place_of(0, number)

    def stretch_at(self, place):
        return place // STRETCH_BITS

    def begin_of(self, number):
        return min(number * STRETCH_BITS, self.length)
