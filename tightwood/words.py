"""Words of bits: how many of a word's bits are 1, and where they are."""

WORD_BITS = 32
FULL_WORD = 0xFFFFFFFF

# How many bits are 1 in each number of four bits: so a word is asked in fours, not bit by bit.
ONES_OF_FOUR = (0, 1, 1, 2, 1, 2, 2, 3, 1, 2, 2, 3, 2, 3, 3, 4)


def ones_in(word):
    ones = 0
    while word > 0:
        ones += ONES_OF_FOUR[word & 15]
        word >>= 4
    return ones


def nth_of_four(four, nth):
    places = [place for place in range(4) if (four >> place) & 1 == 1]
    return places[nth]


def nth_one(word, nth):
    if nth < 0:
        return None
    low = 0
    while word > 0:
        ones = ONES_OF_FOUR[word & 15]
        if nth < ones:
            return low + nth_of_four(word & 15, nth)
        nth -= ones
        word >>= 4
        low += 4
    return None
