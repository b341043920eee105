"""Rows of bits, kept in words."""

from tightwood.checks import check_bit, check_place, check_stretch
from tightwood.errors import NoBits
from tightwood.words import WORD_BITS

MOST_BITS = 20000

# Each number of four bits as signs, the bit of the least worth first, as places are numbered.
SIGNS_OF_FOUR = (
    "0000", "1000", "0100", "1100", "0010", "1010", "0110", "1110",
    "0001", "1001", "0101", "1101", "0011", "1011", "0111", "1111",
)


def is_row(thing):
    if not isinstance(thing, str) or len(thing) > MOST_BITS:
        return False
    return thing.count("0") + thing.count("1") == len(thing)


def word_of(signs):
    # Places go up from the left, worths from the right.
    return int(signs[::-1], 2)


def words_of(text):
    return tuple([word_of(text[low:low + WORD_BITS]) for low in range(0, len(text), WORD_BITS)])


def signs_of(word):
    return "".join([SIGNS_OF_FOUR[(word >> low) & 15] for low in range(0, WORD_BITS, 4)])


class Bits:
    """A row of bits that never changes: what would change it tells another row."""

    def __init__(self, text):
        if not is_row(text):
            raise NoBits("a row of bits is a text of 0 to 20000 signs 0 and 1")
        self.length = len(text)
        self.many_ones = text.count("1")
        self.kept_words = words_of(text)

    def size(self):
        return self.length

    def ones(self):
        return self.many_ones

    def words(self):
        return self.kept_words

    def bit(self, place):
        check_place(place, self.length - 1)
        return (self.kept_words[place // WORD_BITS] >> (place % WORD_BITS)) & 1

    def stretch(self, low, high):
        check_stretch(low, high, self.length)
        first = low // WORD_BITS
        beyond = (high + WORD_BITS - 1) // WORD_BITS
        signs = "".join([signs_of(word) for word in self.kept_words[first:beyond]])
        begin = first * WORD_BITS
        return signs[low - begin:high - begin]

    def text(self):
        return self.stretch(0, self.length)

    def changed(self, place, bit):
        check_place(place, self.length - 1)
        check_bit(bit)
        sign = "1" if bit == 1 else "0"
        return Bits(self.stretch(0, place) + sign + self.stretch(place + 1, self.length))

    def put_in(self, place, other):
        check_place(place, self.length)
        return Bits(self.stretch(0, place) + other.text() + self.stretch(place, self.length))

    def taken_out(self, low, high):
        check_stretch(low, high, self.length)
        return Bits(self.stretch(0, low) + self.stretch(high, self.length))
