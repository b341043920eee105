"""Rows in pieces: a deed makes few pieces anew, and leaves all others as they are."""

from tightwood.counts import first_that, running_sums
from tightwood.heights import Heights, heights_of

PIECE_SIGNS = 128
# A piece of so many signs has more than 64 together with any other one.
ENOUGH_SIGNS = 64


def sums_of(text):
    """How many signs 1 there are, how many more than signs 0, and the least that this comes to behind a sign."""
    heights = heights_of(text, 0)
    return (text.count("1"), heights[-1] if len(heights) > 0 else 0, min(heights, default=0))


def pieces_of(text):
    """A text as few pieces, as evenly as can be: where there are several, each has enough signs."""
    many = (len(text) + PIECE_SIGNS - 1) // PIECE_SIGNS
    cuts = [number * len(text) // many for number in range(1, many)]
    return [Piece(text[low:high]) for low, high in zip([0] + cuts, cuts + [len(text)]) if low < high]


class Piece:
    """A text of 1 to 128 signs that never changes, with its sums, and more of its heights."""

    def __init__(self, signs):
        heights = heights_of(signs, 0)
        self.signs = signs
        self.kept_sums = sums_of(signs)
        self.greatest = max(heights)
        self.often_least = heights.count(min(heights))


class PiecedRow(Heights):
    """A balanced row that never changes, cut into pieces; what would change it tells another row."""

    def __init__(self, pieces):
        self.kept_pieces = pieces
        self.begins = running_sums([len(piece.signs) for piece in pieces])
        self.knots_ahead = running_sums([piece.kept_sums[0] for piece in pieces])
        heights = [2 * knots - begin for knots, begin in zip(self.knots_ahead, self.begins)]
        table = [(height, height + piece.kept_sums[2], height + piece.greatest)
                 for height, piece in zip(heights, pieces)]
        Heights.__init__(self, self.begins[-1], table, [piece.often_least for piece in pieces])

    def stretch(self, low, high):
        first = self.stretch_at(low)
        signs = "".join([piece.signs for piece in self.kept_pieces[first:self.pieces_to(high)]])
        begin = self.begins[first]
        return signs[low - begin:high - begin]

    def is_opening(self, place):
        return self.stretch(place, place + 1) == "1"

    def opens_ahead(self, place):
        number = self.stretch_at(place)
        return self.knots_ahead[number] + self.stretch(self.begins[number], place).count("1")

    def opening(self, number):
        piece = first_that(0, len(self.kept_pieces), lambda one: self.knots_ahead[one + 1] > number)
        signs = self.kept_pieces[piece].signs
        places = [place for place, sign in enumerate(signs, start=self.begins[piece]) if sign == "1"]
        return places[number - self.knots_ahead[piece]]

    def stretch_at(self, place):
        return first_that(0, len(self.kept_pieces), lambda number: self.begins[number + 1] > place)

    def begin_of(self, number):
        return self.begins[number]

    def pieces_to(self, place):
        """The number of the first piece that begins at a place or behind it."""
        return first_that(0, len(self.kept_pieces), lambda number: self.begins[number] >= place)

    def replaced(self, low, high, text):
        """Another row, with this text in the place of what stands from low to ahead of high."""
        first = self.stretch_at(low)
        behind = self.pieces_to(high)
        left_over = low - self.begins[first] + self.begins[behind] - high
        if left_over + len(text) < ENOUGH_SIGNS:
            first = max(first - 1, 0)
            behind = min(behind + 1, len(self.kept_pieces))
        middle = self.stretch(self.begins[first], low) + text + self.stretch(high, self.begins[behind])
        return PiecedRow(self.kept_pieces[:first] + pieces_of(middle) + self.kept_pieces[behind:])
