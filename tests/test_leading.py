import itertools
import unittest

from tests.plain import (PlainWood, all_tops, all_woods, brush, chain, comb, large_woods, mixed_wood, plain_heights,
                         plain_row, small_woods)
from tightwood.errors import NoWood
from tightwood.leading import (counts_to_levels, counts_to_open, levels_to_counts, levels_to_open, open_to_counts,
                               open_to_levels)

FROM_OPEN = (open_to_levels, open_to_counts)
FROM_LEVELS = (levels_to_open, levels_to_counts)
FROM_COUNTS = (counts_to_open, counts_to_levels)
NO_TEXTS = [None, 0, 1, 10, 100, True, False, [], ["1", "0"], ("1", "0"), {}, b"10", b"", 1.0, set(), object(),
            10 ** 5000]


def plain_rows(elders):
    plain = PlainWood(elders)
    return plain_row(elders), plain.counted_row(plain.by_levels), plain.counted_row(range(len(elders)))


class TestLeading(unittest.TestCase):
    def check_rows(self, opened, levels, counts):
        self.assertEqual((open_to_levels(opened), open_to_counts(opened)), (levels, counts))
        self.assertEqual((levels_to_open(levels), levels_to_counts(levels)), (opened, counts))
        self.assertEqual((counts_to_open(counts), counts_to_levels(counts)), (opened, levels))

    def test_by_hand(self):
        self.check_rows("", "0", "0")
        self.check_rows("10", "100", "100")
        self.check_rows("1010", "11000", "11000")
        self.check_rows("1100", "10100", "10100")
        # By levels the second top's group stands ahead of the first one's child's.
        self.check_rows("11100010", "110100100", "110101000")
        self.check_rows("1110010010", "11011001000", "11011010000")

    def test_all_small_woods(self):
        for elders in small_woods(7):
            self.check_rows(*plain_rows(elders))

    def test_large_woods(self):
        for elders in large_woods() + [brush(4000), comb(4000), mixed_wood(4000, 6, 30), mixed_wood(999, 7, 55)]:
            self.check_rows(*plain_rows(elders))

    def test_each_row_tells_one_wood(self):
        rows = [plain_rows(elders) for elders in all_woods(6)]
        for kind in range(3):
            self.assertEqual(len({row[kind] for row in rows}), len(rows))


class TestRefused(unittest.TestCase):
    def check_refused(self, leads, row, place):
        for lead in leads:
            with self.assertRaises(NoWood) as caught:
                lead(row)
            self.assertEqual(caught.exception.place, place)

    def test_no_texts(self):
        for thing in NO_TEXTS:
            self.check_refused(FROM_OPEN + FROM_LEVELS + FROM_COUNTS, thing, 0)

    def check_every_text(self, leads, rows, longest):
        """Each text of few signs: a row, or the longest beginning is told that a row begins with."""
        begins = {row[:size] for row in rows for size in range(len(row) + 1)}
        rows = set(rows)
        for size in range(longest + 1):
            for signs in itertools.product("01", repeat=size):
                text = "".join(signs)
                if text in rows:
                    for lead in leads:
                        lead(text)
                else:
                    place = max([end for end in range(size + 1) if text[:end] in begins])
                    self.check_refused(leads, text, place)

    def test_every_text_of_few_signs(self):
        # A text of 7 signs that begins a row begins one of at most 7 knots.
        rows = [plain_rows(elders) for elders in small_woods(7)]
        self.check_every_text(FROM_OPEN, [row[0] for row in rows], 7)
        self.check_every_text(FROM_LEVELS, [row[1] for row in rows], 7)
        self.check_every_text(FROM_COUNTS, [row[2] for row in rows], 7)

    def test_a_sign_that_is_none(self):
        opened, levels, counts = plain_rows(mixed_wood(60))
        for sign in ("2", " ", "-", "\n", "a", "\x00", "(", "/"):
            for place in range(0, 120, 7):
                for leads, row in ((FROM_OPEN, opened), (FROM_LEVELS, levels), (FROM_COUNTS, counts)):
                    self.check_refused(leads, row[:place] + sign + row[place + 1:], place)
            for leads, row in ((FROM_OPEN, opened), (FROM_LEVELS, levels), (FROM_COUNTS, counts)):
                self.check_refused(leads, row + sign, len(row))
                self.check_refused(leads, sign + row, 0)

    def test_too_few_signs(self):
        for elders in (mixed_wood(200), chain(200), all_tops(200), chain(4000), all_tops(4000)):
            opened, levels, counts = plain_rows(elders)
            tops = [place for place, height in enumerate(plain_heights(opened)) if height == 0]
            for end in range(0, len(opened), 61):
                if end not in tops:
                    self.check_refused(FROM_OPEN, opened[:end], end)
                self.check_refused(FROM_LEVELS, levels[:end], end)
                self.check_refused(FROM_COUNTS, counts[:end], end)

    def test_signs_behind_the_end(self):
        for elders in ([], [-1], [-1, 0, -1], mixed_wood(200), mixed_wood(4000)):
            opened, levels, counts = plain_rows(elders)
            for behind in ("0", "00", "0110", "1", "10", "x"):
                if behind[0] == "0":
                    self.check_refused(FROM_OPEN, opened + behind, len(opened))
                self.check_refused(FROM_LEVELS, levels + behind, len(levels))
                self.check_refused(FROM_COUNTS, counts + behind, len(counts))

    def test_more_than_4000_knots(self):
        for elders in (chain(4001), all_tops(4001), brush(4001), mixed_wood(4001), mixed_wood(4300, 6)):
            rows = plain_rows(elders)
            for leads, row in zip((FROM_OPEN, FROM_LEVELS, FROM_COUNTS), rows):
                ones = [place for place, sign in enumerate(row) if sign == "1"]
                self.check_refused(leads, row, ones[4000])
        self.check_refused(FROM_OPEN, "1" * 4001, 4000)
        self.check_refused(FROM_OPEN, "1" * 4000, 4000)
        self.check_refused(FROM_OPEN, "10" * 4000 + "1", 8000)
        self.check_refused(FROM_LEVELS + FROM_COUNTS, "1" * 4001 + "0" * 4002, 4000)
        self.check_refused(FROM_LEVELS + FROM_COUNTS, "1" * 9000, 4000)
        self.check_refused(FROM_LEVELS + FROM_COUNTS, "10" * 4000 + "1", 8000)
        self.check_refused(FROM_LEVELS + FROM_COUNTS, "10" * 4000, 8000)


if __name__ == "__main__":
    unittest.main()
