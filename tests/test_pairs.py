import unittest
from bisect import bisect_left, bisect_right

from tests.plain import all_balanced, all_tops, chain, comb, mixed_wood, plain_heights, plain_partners
from tests.samples import FAR_OUT, NO_WHOLE_NUMBERS
from tightwood.errors import NoPlace, NoRow
from tightwood.pairs import Pairs


def opened_row(elders):
    depths = []
    signs = ""
    height = 0
    for elder in elders:
        depths.append(0 if elder == -1 else depths[elder] + 1)
        signs += "0" * (height - depths[-1]) + "1"
        height = depths[-1] + 1
    return signs + "0" * height


def small_rows():
    return [row for many in range(7) for row in all_balanced(many)]


def rows_of(size):
    """Balanced rows of a size that differ in how high they go."""
    many = size // 2
    rows = ["1" * many + "0" * many, "10" * many, "1100" * (many // 2) + "10" * (many % 2)]
    rows += [opened_row(mixed_wood(many, seed, rise)) for seed, rise in ((1, 45), (2, 55), (3, 30))]
    return rows


def long_rows():
    return [row for size in (254, 256, 258, 512, 514, 1026) for row in rows_of(size)]


def longest_rows():
    return rows_of(8192) + ["1" + "10" * 4095 + "0", opened_row(comb(4096))]


class TestMade(unittest.TestCase):
    def assert_barred(self, thing, place):
        with self.assertRaises(NoRow) as caught:
            Pairs(thing)
        self.assertEqual(caught.exception.place, place)
        self.assertIs(type(caught.exception), NoRow)

    def test_text_and_size(self):
        for row in small_rows() + long_rows() + longest_rows():
            self.assertEqual(Pairs(row).text(), row)
            self.assertEqual(Pairs(row).size(), len(row))

    def test_the_text_without_signs(self):
        pairs = Pairs("")
        self.assertEqual((pairs.size(), pairs.text(), pairs.table()), (0, "", ()))
        self.assertEqual(pairs.height(0), 0)
        self.assertEqual(pairs.opens_ahead(0), 0)
        self.assertEqual(pairs.lowest(0, 0), (0, 0))
        self.assertIsNone(pairs.next_at(0, 0))
        self.assertIsNone(pairs.last_at(0, 0))

    def test_every_short_text_is_a_row_or_barred_at_the_first_place(self):
        for size in range(9):
            for number in range(3 ** size):
                text = "".join(["012"[number // 3 ** place % 3] for place in range(size)])
                heights = plain_heights(text)
                barred = [place for place in range(size) if text[place] == "2" or heights[place + 1] < 0]
                if barred:
                    self.assert_barred(text, barred[0])
                elif heights[-1] > 0:
                    self.assert_barred(text, size)
                else:
                    self.assertEqual(Pairs(text).text(), text)

    def test_signs_that_are_none(self):
        for sign in ("2", " ", "a", "(", ")", "-", "\n", "\0", "O", "l"):
            self.assert_barred(sign, 0)
            self.assert_barred("1" + sign, 1)
            self.assert_barred("10" + sign + "10", 2)
            self.assert_barred("10" * 300 + sign, 600)
            self.assert_barred("1100" + sign + "00", 4)

    def test_a_closing_too_many(self):
        self.assert_barred("0", 0)
        self.assert_barred("01", 0)
        self.assert_barred("100", 2)
        self.assert_barred("1001", 2)
        self.assert_barred("100x", 2)
        self.assert_barred("10" * 4000 + "0" + "1" * 9000, 8000)

    def test_openings_left(self):
        self.assert_barred("1", 1)
        self.assert_barred("110", 3)
        self.assert_barred("1" * 5000, 5000)
        self.assert_barred("1" * 8192, 8192)
        self.assert_barred("1" * 4097 + "0" * 4095, 8192)

    def test_more_than_8192_signs(self):
        self.assertEqual(Pairs("10" * 4096).size(), 8192)
        for text in ("10" * 4096 + "1", "10" * 4097, "10" * 4096 + "0", "10" * 4096 + "x", "1" * 8193, "1" * 20000,
                     "1" * 4097 + "0" * 4097):
            self.assert_barred(text, 8192)
        self.assert_barred("10" * 4095 + "0" + "1" * 100, 8190)

    def test_what_is_no_text(self):
        for thing in NO_WHOLE_NUMBERS + FAR_OUT + [0, 10, ["1", "0"], ("1", "0"), b"10", Pairs("10")]:
            if not isinstance(thing, str):
                self.assert_barred(thing, 0)


class TestAsked(unittest.TestCase):
    def check_places(self, row):
        pairs = Pairs(row)
        heights = plain_heights(row)
        partners = plain_partners(row)
        self.assertEqual([pairs.height(place) for place in range(len(row) + 1)], heights)
        self.assertEqual([pairs.partner(place) for place in range(len(row))], partners)
        path = []
        rounds = []
        depths = []
        for place, sign in enumerate(row):
            if sign == "0":
                path.pop()
            rounds.append(path[-1] if path else None)
            depths.append(len(path))
            if sign == "1":
                path.append(place)
        self.assertEqual([pairs.round(place) for place in range(len(row))], rounds)
        self.assertEqual([pairs.depth(place) for place in range(len(row))], depths)
        openings = [place for place, sign in enumerate(row) if sign == "1"]
        self.assertEqual([pairs.opening(number) for number in range(len(openings))], openings)
        ahead = [bisect_left(openings, place) for place in range(len(row) + 1)]
        self.assertEqual([pairs.opens_ahead(place) for place in range(len(row) + 1)], ahead)

    def test_by_hand(self):
        pairs = Pairs("11010010")
        self.assertEqual([pairs.height(place) for place in range(9)], [0, 1, 2, 1, 2, 1, 0, 1, 0])
        self.assertEqual([pairs.partner(place) for place in range(8)], [5, 2, 1, 4, 3, 0, 7, 6])
        self.assertEqual([pairs.round(place) for place in range(8)], [None, 0, 0, 0, 0, None, None, None])
        self.assertEqual([pairs.depth(place) for place in range(8)], [0, 1, 1, 1, 1, 0, 0, 0])
        self.assertEqual([pairs.opens_ahead(place) for place in range(9)], [0, 1, 2, 2, 3, 3, 3, 4, 4])
        self.assertEqual([pairs.opening(number) for number in range(4)], [0, 1, 3, 6])
        self.assertEqual([pairs.next_at(place, 1) for place in range(9)], [1, 3, 3, 5, 5, 7, 7, None, None])
        self.assertEqual([pairs.last_at(place, 0) for place in range(9)], [None, 0, 0, 0, 0, 0, 0, 6, 6])
        self.assertEqual(pairs.lowest(1, 5), (1, 1))
        self.assertEqual(pairs.lowest(2, 5), (1, 3))
        self.assertEqual(pairs.lowest(2, 8), (0, 6))
        self.assertEqual(pairs.lowest(4, 4), (2, 4))

    def test_every_place(self):
        for row in small_rows() + long_rows():
            self.check_places(row)

    def test_every_place_of_the_longest_rows(self):
        for row in longest_rows():
            self.check_places(row)

    def check_beside(self, row, asked_places, asked_heights):
        pairs = Pairs(row)
        met = {}
        for place, height in enumerate(plain_heights(row)):
            met.setdefault(height, []).append(place)
        for height in asked_heights:
            places = met.get(height, [])
            for place in asked_places:
                later = places[bisect_right(places, place):]
                sooner = places[:bisect_left(places, place)]
                self.assertEqual(pairs.next_at(place, height), later[0] if later else None)
                self.assertEqual(pairs.last_at(place, height), sooner[-1] if sooner else None)

    def test_heights_beside_every_place(self):
        for row in small_rows():
            self.check_beside(row, range(len(row) + 1), range(-2, len(row) // 2 + 3))
        for row in long_rows():
            heights = sorted({-1, 0, 1, 2, max(plain_heights(row)) // 2, max(plain_heights(row)),
                              max(plain_heights(row)) + 1})
            self.check_beside(row, range(0, len(row) + 1, 3), heights)
            edges = [place for place in range(len(row) + 1) if place % 256 in (0, 1, 2, 255)]
            self.check_beside(row, edges, heights)

    def test_heights_beside_places_of_the_longest_rows(self):
        for row in longest_rows():
            heights = plain_heights(row)
            places = [0, 1, 255, 256, 257, 4095, 4096, 4097, 7935, 7936, 8190, 8191, 8192] + list(range(7, 8192, 577))
            asked = {heights[place] + step for place in places for step in (-1, 0, 1)}
            self.check_beside(row, places, sorted(asked | {-5, 4097}))

    def test_heights_that_are_never_met(self):
        pairs = Pairs("1" * 300 + "0" * 300)
        for height in (-1, -(10 ** 5000), 301, 10 ** 5000):
            for place in range(601):
                self.assertIsNone(pairs.next_at(place, height))
                self.assertIsNone(pairs.last_at(place, height))

    def check_lowest(self, row, lows, step):
        pairs = Pairs(row)
        heights = plain_heights(row)
        for low in lows:
            best = (heights[low], low)
            for high in range(low, len(row) + 1):
                best = min(best, (heights[high], high))
                if (high - low) % step == 0 or high == len(row):
                    told = pairs.lowest(low, high)
                    self.assertEqual(told, best)
                    self.assertIsInstance(told, tuple)

    def test_lowest_of_every_low_and_high(self):
        for row in small_rows():
            self.check_lowest(row, range(len(row) + 1), 1)
        for row in rows_of(514):
            self.check_lowest(row, [low for low in range(515) if low % 256 in (0, 1, 2, 97, 254, 255)], 7)

    def test_lowest_in_the_longest_rows(self):
        for row in longest_rows():
            self.check_lowest(row, [0, 1, 255, 256, 257, 3000, 8191, 8192], 193)


class TestTable(unittest.TestCase):
    def test_by_hand(self):
        self.assertEqual(Pairs("").table(), ())
        self.assertEqual(Pairs("10").table(), ((0, 0, 1),))
        self.assertEqual(Pairs("1100").table(), ((0, 0, 2),))
        self.assertEqual(Pairs("1" * 127 + "0" * 127).table(), ((0, 0, 127),))
        self.assertEqual(Pairs("1" * 128 + "0" * 128).table(), ((0, 0, 128),))
        self.assertEqual(Pairs("1" * 129 + "0" * 129).table(), ((0, 1, 129), (2, 0, 1)))
        self.assertEqual(Pairs("1" * 256 + "0" * 256).table(), ((0, 1, 256), (256, 0, 255)))
        self.assertEqual(Pairs("10" * 128).table(), ((0, 0, 1),))
        self.assertEqual(Pairs("10" * 129).table(), ((0, 0, 1), (0, 0, 1)))

    def test_of_rows_of_every_length(self):
        for row in small_rows() + long_rows() + longest_rows():
            heights = plain_heights(row)
            table = []
            for begin in range(0, len(row), 256):
                within = heights[begin + 1:begin + 257]
                table.append((heights[begin], min(within), max(within)))
            told = Pairs(row).table()
            self.assertEqual(told, tuple(table))
            self.assertTrue(isinstance(told, tuple) and all(isinstance(part, tuple) for part in told))


class TestRefused(unittest.TestCase):
    def test_what_is_no_place(self):
        for row in ["", "10", "110100", "10" * 128, "1" * 200 + "0" * 200]:
            pairs = Pairs(row)
            for place in NO_WHOLE_NUMBERS + FAR_OUT + [len(row) + 1, len(row) + 256]:
                for ask in (pairs.height, pairs.partner, pairs.round, pairs.depth, pairs.opens_ahead):
                    with self.assertRaises(NoPlace):
                        ask(place)
                for ask in (pairs.next_at, pairs.last_at):
                    for height in (0, 1, -1, None):
                        with self.assertRaises(NoPlace):
                            ask(place, height)
                for low, high in ((place, len(row)), (0, place), (place, place)):
                    with self.assertRaises(NoPlace):
                        pairs.lowest(low, high)
            for ask in (pairs.partner, pairs.round, pairs.depth):
                with self.assertRaises(NoPlace):
                    ask(len(row))

    def test_a_first_place_above_the_second(self):
        pairs = Pairs("110100")
        for low in range(1, 7):
            for high in range(low):
                with self.assertRaises(NoPlace):
                    pairs.lowest(low, high)

    def test_what_is_no_number_of_an_opening(self):
        for row in ["", "10", "110100", "10" * 128]:
            for number in NO_WHOLE_NUMBERS + FAR_OUT + [len(row) // 2, len(row)]:
                with self.assertRaises(NoPlace):
                    Pairs(row).opening(number)

    def test_what_is_no_height(self):
        for row in ["", "10", "110100", "10" * 128]:
            pairs = Pairs(row)
            for height in NO_WHOLE_NUMBERS:
                for place in range(len(row) + 1):
                    for ask in (pairs.next_at, pairs.last_at):
                        with self.assertRaises(NoPlace):
                            ask(place, height)

    def test_what_is_refused_changes_nothing(self):
        row = opened_row(mixed_wood(200)) + opened_row(chain(20)) + opened_row(all_tops(20))
        pairs = Pairs(row)
        table = pairs.table()
        for deed in (lambda: pairs.height(-1), lambda: pairs.lowest(3, 2), lambda: pairs.next_at(0, None)):
            with self.assertRaises(NoPlace):
                deed()
        self.assertEqual((pairs.text(), pairs.table()), (row, table))


if __name__ == "__main__":
    unittest.main()
