import unittest

from tests.samples import mixed_row
from tightwood.words import nth_one, ones_in

EDGES = [0, 1, 2, 3, 2 ** 16 - 1, 2 ** 16, 2 ** 31, 2 ** 31 + 1, 2 ** 32 - 2, 2 ** 32 - 1]


def places_of(word):
    return [place for place in range(32) if word & 2 ** place]


class TestWords(unittest.TestCase):
    def words(self):
        singles = [2 ** place for place in range(32)]
        gaps = [2 ** 32 - 1 - single for single in singles]
        low_runs = [2 ** place - 1 for place in range(33)]
        mixed = [int(mixed_row(32, seed), 2) for seed in range(100)]
        return EDGES + singles + gaps + low_runs + mixed

    def test_written_out(self):
        self.assertEqual([ones_in(word) for word in (0, 1, 2 ** 31, 2 ** 32 - 1)], [0, 1, 1, 32])
        self.assertEqual(nth_one(1, 0), 0)
        self.assertEqual(nth_one(2 ** 31, 0), 31)
        self.assertEqual(nth_one(0b101000, 0), 3)
        self.assertEqual(nth_one(0b101000, 1), 5)
        self.assertIsNone(nth_one(0b101000, 2))
        self.assertIsNone(nth_one(0, 0))
        self.assertEqual([nth_one(2 ** 32 - 1, nth) for nth in range(33)], list(range(32)) + [None])

    def test_ones_in(self):
        for word in self.words():
            self.assertEqual(ones_in(word), len(places_of(word)), word)

    def test_every_nth_one_and_none_beyond(self):
        for word in self.words():
            places = places_of(word)
            told = [nth_one(word, nth) for nth in range(40)]
            self.assertEqual(told, places + [None] * (40 - len(places)), word)

    def test_far_beyond_the_last_one(self):
        self.assertIsNone(nth_one(2 ** 32 - 1, 10 ** 30))

    def test_somewhat_beyond_the_bounds_nothing_is_refused(self):
        self.assertEqual(ones_in(2 ** 40 + 2 ** 32 + 1), 3)
        self.assertEqual([nth_one(2 ** 40 + 2 ** 32 + 1, nth) for nth in range(4)], [0, 32, 40, None])
        self.assertIsNone(nth_one(1, -1))
        self.assertIsNone(nth_one(0, -1))


if __name__ == "__main__":
    unittest.main()
