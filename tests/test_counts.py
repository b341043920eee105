import unittest

from tests.samples import FAR_OUT, NO_WHOLE_NUMBERS, mixed_row, rows_of
from tightwood.bits import Bits
from tightwood.counts import Counts, begins_of
from tightwood.errors import NoBits, NoPlace

SIZES = [0, 1, 31, 32, 33, 255, 256, 257, 511, 512, 513, 800]
NO_BITS = NO_WHOLE_NUMBERS + FAR_OUT + [2, 3]


def places_of(text, bit):
    return [place for place, sign in enumerate(text) if sign == str(bit)]


class TestTable(unittest.TestCase):
    def test_written_out(self):
        for text, table in [
            ("", (0,)),
            ("0", (0, 0)),
            ("1", (0, 1)),
            ("1" * 255, (0, 255)),
            ("1" * 256, (0, 256)),
            ("1" * 257, (0, 256, 257)),
            ("1" * 512, (0, 256, 512)),
            ("1" * 513, (0, 256, 512, 513)),
            ("0" * 256 + "1" * 256 + "01", (0, 0, 256, 257)),
            ("1" + "0" * 255 + "1", (0, 1, 2)),
            ("0" * 255 + "1" + "0", (0, 1, 1)),
        ]:
            self.assertEqual(Counts(Bits(text)).table(), table)
            self.assertIsInstance(Counts(Bits(text)).table(), tuple)

    def test_of_every_size(self):
        for size in SIZES + [5000, 20000]:
            for text in rows_of(size):
                begins = list(range(0, size, 256)) + [size]
                table = tuple([text[:begin].count("1") for begin in begins])
                self.assertEqual(Counts(Bits(text)).table(), table)


class TestAsked(unittest.TestCase):
    def check_ahead(self, text):
        counts = Counts(Bits(text))
        ones = 0
        for place in range(len(text) + 1):
            self.assertEqual(counts.ahead(1, place), ones)
            self.assertEqual(counts.ahead(0, place), place - ones)
            if text[place:place + 1] == "1":
                ones += 1

    def check_place_of(self, text):
        counts = Counts(Bits(text))
        for bit in (0, 1):
            places = places_of(text, bit)
            self.assertEqual([counts.place_of(bit, nth) for nth in range(len(places))], places)
            for beyond in (len(places), len(places) + 1, len(places) + 32):
                with self.assertRaises(NoPlace):
                    counts.place_of(bit, beyond)

    def check_beside(self, text):
        counts = Counts(Bits(text))
        for sign in ("0", "1"):
            bit = int(sign)
            for place in range(len(text) + 1):
                later = text.find(sign, place)
                sooner = text.rfind(sign, 0, place)
                self.assertEqual(counts.next_from(bit, place), None if later < 0 else later)
                self.assertEqual(counts.last_ahead(bit, place), None if sooner < 0 else sooner)

    def test_written_out(self):
        counts = Counts(Bits("01101"))
        self.assertEqual([counts.ahead(1, place) for place in range(6)], [0, 0, 1, 2, 2, 3])
        self.assertEqual([counts.ahead(0, place) for place in range(6)], [0, 1, 1, 1, 2, 2])
        self.assertEqual([counts.place_of(1, nth) for nth in range(3)], [1, 2, 4])
        self.assertEqual([counts.place_of(0, nth) for nth in range(2)], [0, 3])
        self.assertEqual([counts.next_from(1, place) for place in range(6)], [1, 1, 2, 4, 4, None])
        self.assertEqual([counts.next_from(0, place) for place in range(6)], [0, 3, 3, 3, None, None])
        self.assertEqual([counts.last_ahead(1, place) for place in range(6)], [None, None, 1, 2, 2, 4])
        self.assertEqual([counts.last_ahead(0, place) for place in range(6)], [None, 0, 0, 0, 3, 3])

    def test_ahead_at_every_place(self):
        for size in SIZES:
            for text in rows_of(size):
                self.check_ahead(text)

    def test_place_of_every_nth(self):
        for size in SIZES:
            for text in rows_of(size):
                self.check_place_of(text)

    def test_next_from_and_last_ahead_at_every_place(self):
        for size in SIZES:
            for text in rows_of(size):
                self.check_beside(text)

    def test_the_greatest_row(self):
        text = mixed_row(20000)
        self.check_ahead(text)
        self.check_place_of(text)
        self.check_beside("0" * 9000 + "1" + "0" * 10999)

    def test_place_of_and_ahead_lead_to_one_another(self):
        for size in SIZES:
            for text in rows_of(size):
                counts = Counts(Bits(text))
                for bit in (0, 1):
                    for nth in range(text.count(str(bit))):
                        self.assertEqual(counts.ahead(bit, counts.place_of(bit, nth)), nth)
                    for place in places_of(text, bit):
                        self.assertEqual(counts.place_of(bit, counts.ahead(bit, place)), place)

    def test_the_row_of_bits_stays(self):
        text = mixed_row(300)
        row = Bits(text)
        counts = Counts(row)
        counts.place_of(0, 3)
        self.assertEqual(row.text(), text)
        row.changed(0, 1 - row.bit(0))
        self.check_place_of(text)
        self.assertEqual(counts.ahead(1, 300), text.count("1"))


class TestRefused(unittest.TestCase):
    def questions(self, counts):
        return [counts.ahead, counts.place_of, counts.next_from, counts.last_ahead]

    def test_no_bit(self):
        for size in (0, 1, 40, 300):
            for ask in self.questions(Counts(Bits(mixed_row(size)))):
                for bit in NO_BITS:
                    with self.assertRaises(NoBits):
                        ask(bit, 0)

    def test_no_bit_ahead_of_no_place(self):
        for ask in self.questions(Counts(Bits(mixed_row(40)))):
            for bit in NO_BITS:
                for place in (-1, 41, None, True, "0", [], 10 ** 5000):
                    with self.assertRaises(NoBits):
                        ask(bit, place)

    def test_no_place(self):
        for size in (0, 1, 32, 40, 256, 300, 512):
            counts = Counts(Bits(mixed_row(size)))
            for ask in (counts.ahead, counts.next_from, counts.last_ahead):
                for bit in (0, 1):
                    for place in NO_WHOLE_NUMBERS + FAR_OUT + [size + 1, size + 256]:
                        with self.assertRaises(NoPlace):
                            ask(bit, place)

    def test_no_nth(self):
        for size in (0, 1, 32, 40, 256, 300, 512):
            for text in rows_of(size):
                counts = Counts(Bits(text))
                for bit in (0, 1):
                    many = text.count(str(bit))
                    for nth in NO_WHOLE_NUMBERS + FAR_OUT + [many, many + 1, size + 1]:
                        with self.assertRaises(NoPlace):
                            counts.place_of(bit, nth)

    def test_refused_changes_nothing(self):
        text = mixed_row(300)
        counts = Counts(Bits(text))
        table = counts.table()
        for ask in self.questions(counts):
            for bit, place in ((2, 0), (1, -1), (0, 301), (None, None)):
                with self.assertRaises((NoBits, NoPlace)):
                    ask(bit, place)
        self.assertEqual(counts.table(), table)
        self.assertEqual([counts.place_of(1, nth) for nth in range(text.count("1"))], places_of(text, 1))


class TestBeginsOf(unittest.TestCase):
    def test_a_one_for_each_thing_that_is_another_one(self):
        for things, begins in [([], []), ([0], [0]), ([0, 0], [0]), ([0, 0, 1, 2, 2], [0, 2, 3]),
                               (["a", "b", "b", "a"], [0, 1, 3])]:
            counts = begins_of(things)
            self.assertEqual(counts.table()[-1], len(begins))
            self.assertEqual([counts.place_of(1, nth) for nth in range(len(begins))], begins)


if __name__ == "__main__":
    unittest.main()
