import itertools
import unittest

from tests.samples import mixed_row
from tightwood.pieces import sums_of


def plain_sums(text):
    sums = [text[:end].count("1") - text[:end].count("0") for end in range(1, len(text) + 1)]
    return (text.count("1"), text.count("1") - text.count("0"), min(sums) if sums else 0)


class TestSums(unittest.TestCase):
    def test_by_hand(self):
        for text, sums in [
            ("", (0, 0, 0)), ("1", (1, 1, 1)), ("0", (0, -1, -1)), ("10", (1, 0, 0)), ("01", (1, 0, -1)),
            ("11", (2, 2, 1)), ("00", (0, -2, -2)), ("110", (2, 1, 1)), ("1101", (3, 2, 1)), ("1001", (2, 0, -1)),
            ("100011", (3, 0, -2)), ("1000111", (4, 1, -2)), ("1" * 128, (128, 128, 1)), ("0" * 128, (0, -128, -128)),
        ]:
            self.assertEqual(sums_of(text), sums)

    def test_every_short_text(self):
        for size in range(11):
            for signs in itertools.product("01", repeat=size):
                text = "".join(signs)
                self.assertEqual(sums_of(text), plain_sums(text))

    def test_longer_texts(self):
        for size in (64, 127, 128, 129, 1000):
            for seed in range(5):
                self.assertEqual(sums_of(mixed_row(size, seed)), plain_sums(mixed_row(size, seed)))
        self.assertEqual(sums_of("1" * 10000 + "0" * 10000), (10000, 0, 0))
        self.assertEqual(sums_of("0" * 9000 + "1" * 11000), (11000, 2000, -9000))

    def test_a_tuple_of_three_whole_numbers(self):
        for text in ("", "1", "0011"):
            told = sums_of(text)
            self.assertIs(type(told), tuple)
            self.assertEqual([type(one) for one in told], [int, int, int])


if __name__ == "__main__":
    unittest.main()
