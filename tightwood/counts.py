"""Counts of a row of bits, by a table: no question walks further than one block."""

from tightwood.bits import Bits
from tightwood.checks import check_bit, check_place
from tightwood.words import FULL_WORD, WORD_BITS, nth_one, ones_in

BLOCK_WORDS = 8
BLOCK_BITS = 256


def first_that(low, high, holds):
    """The first number from low on that holds, where all behind it hold, too; high where none ahead of it does."""
    while low < high:
        middle = (low + high) // 2
        if holds(middle):
            high = middle
        else:
            low = middle + 1
    return low


def running_sums(numbers):
    """How much there is ahead of each number, and behind the last one."""
    sums = [0]
    for number in numbers:
        sums.append(sums[-1] + number)
    return sums


def table_of_words(words):
    blocks = [words[low:low + BLOCK_WORDS] for low in range(0, len(words), BLOCK_WORDS)]
    return tuple(running_sums([sum([ones_in(word) for word in block]) for block in blocks]))


class Counts:
    """A row of bits with its table of counts."""

    def __init__(self, bits):
        self.length = bits.size()
        self.kept_words = bits.words()
        self.kept_table = table_of_words(self.kept_words)

    def table(self):
        return self.kept_table

    def ahead(self, bit, place):
        check_bit(bit)
        check_place(place, self.length)
        ones = self.ones_ahead(place)
        return ones if bit == 1 else place - ones

    def place_of(self, bit, nth):
        check_bit(bit)
        check_place(nth, self.many_like(bit) - 1)
        block = self.block_with(bit, nth)
        return self.place_from(bit, block * BLOCK_WORDS, nth - self.ahead_of_block(bit, block))

    def next_from(self, bit, place):
        nth = self.ahead(bit, place)
        return self.place_of(bit, nth) if nth < self.many_like(bit) else None

    def last_ahead(self, bit, place):
        many = self.ahead(bit, place)
        return self.place_of(bit, many - 1) if many > 0 else None

    def ones_ahead(self, place):
        number = place // WORD_BITS
        block = number // BLOCK_WORDS
        ones = self.kept_table[block]
        for word in self.kept_words[block * BLOCK_WORDS:number]:
            ones += ones_in(word)
        rest = place % WORD_BITS
        # Without a rest the word may be one behind the last.
        if rest > 0:
            ones += ones_in(self.kept_words[number] & ((1 << rest) - 1))
        return ones

    def ahead_of_block(self, bit, block):
        ones = self.kept_table[block]
        # The last block may be short, so what is behind it begins at the size.
        return ones if bit == 1 else min(block * BLOCK_BITS, self.length) - ones

    def many_like(self, bit):
        return self.ahead_of_block(bit, len(self.kept_table) - 1)

    def block_with(self, bit, nth):
        return first_that(0, len(self.kept_table) - 2, lambda block: self.ahead_of_block(bit, block + 1) > nth)

    def place_from(self, bit, number, nth):
        # What is left over in the last word looks like 0 bits, but stands behind all that are asked for.
        flip = 0 if bit == 1 else FULL_WORD
        inside = nth_one(self.kept_words[number] ^ flip, nth)
        while inside is None:
            nth -= ones_in(self.kept_words[number] ^ flip)
            number += 1
            inside = nth_one(self.kept_words[number] ^ flip, nth)
        return number * WORD_BITS + inside


def begins_of(things):
    """Counts of a row with a 1 for each of the things that is another one than that ahead of it."""
    signs = ["1" if own != ahead else "0" for ahead, own in zip([None] + things, things)]
    return Counts(Bits("".join(signs)))
