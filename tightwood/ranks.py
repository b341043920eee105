"""The numbers of woods among all of their size, and woods packed into as few bits as tell them apart."""

from tightwood.bits import is_row
from tightwood.checks import is_within
from tightwood.errors import NoBits, NoNumber, TooLarge
from tightwood.heights import heights_of
from tightwood.tables import many_woods, table_of
from tightwood.woods import elders_of, row_of

MOST_RANKED = 200


def ranked_row(elders):
    row = row_of(elders)
    if len(elders) > MOST_RANKED:
        raise TooLarge("only woods of up to 200 knots have numbers")
    return row


def heights_ahead(row):
    """The height ahead of each sign, and behind the last one."""
    return [0] + heights_of(row, 0)


def many_closing(table, left, still_opened):
    """How many rows go on with a closing, and then with so many signs that are left."""
    return table[left][still_opened - 1] if still_opened > 0 else 0


def number_of(elders):
    row = ranked_row(elders)
    table = table_of(len(elders))
    heights = heights_ahead(row)
    # Ahead of a wood stand all that are like it up to an opening, and close there.
    ahead = [many_closing(table, len(row) - place - 1, heights[place]) for place, sign in enumerate(row) if sign == "1"]
    return sum(ahead)


def wood_of(n, number):
    if not is_within(number, 0, many_woods(n) - 1):
        raise NoNumber("no wood of so many knots has this number")
    table = table_of(n)
    signs = []
    still_opened = 0
    ahead = number
    for left in range(2 * n - 1, -1, -1):
        closing = many_closing(table, left, still_opened)
        if ahead < closing:
            signs.append("0")
            still_opened -= 1
        else:
            signs.append("1")
            still_opened += 1
            ahead -= closing
    return elders_of("".join(signs))


def packed_size(n):
    return (many_woods(n) - 1).bit_length()


def packed(elders):
    number = number_of(elders)
    size = packed_size(len(elders))
    return "".join(["1" if (number >> place) & 1 == 1 else "0" for place in range(size - 1, -1, -1)])


def unpacked(n, text):
    if is_row(text) and len(text) == packed_size(n):
        # The nought ahead writes the number of the text without signs, too.
        number = int("0" + text, 2)
        if number < many_woods(n):
            return wood_of(n, number)
    raise NoBits("no packed wood of so many knots")


def next_wood(elders):
    row = ranked_row(elders)
    heights = heights_ahead(row)
    # Where a closing may open instead, enough signs are left to close all that is open then.
    places = [place for place, sign in enumerate(row) if sign == "0" and heights[place] + 1 < len(row) - place]
    if len(places) == 0:
        return None
    still_opened = heights[places[-1]] + 1
    left = len(row) - places[-1] - 1 - still_opened
    return elders_of(row[:places[-1]] + "1" + "0" * still_opened + "10" * (left // 2))
