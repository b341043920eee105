import unittest

from tests.samples import FAR_OUT, NO_WHOLE_NUMBERS, mixed_row, rows_of
from tightwood.bits import Bits
from tightwood.errors import NoBits, NoPlace

SIZES = [0, 1, 31, 32, 33, 63, 64, 65, 100]


def words_by_places(text):
    words = [0] * ((len(text) + 31) // 32)
    for place, sign in enumerate(text):
        if sign == "1":
            words[place // 32] += 2 ** (place % 32)
    return tuple(words)


def no_places(size):
    """Nothing of these is a place from 0 to the size."""
    return NO_WHOLE_NUMBERS + FAR_OUT + [size + 1, size + 32]


class TestMade(unittest.TestCase):
    def test_written_out(self):
        self.assertEqual(Bits("").words(), ())
        self.assertEqual(Bits("0").words(), (0,))
        self.assertEqual(Bits("1").words(), (1,))
        self.assertEqual(Bits("0110").words(), (6,))
        self.assertEqual(Bits("0" * 30 + "1").words(), (2 ** 30,))
        self.assertEqual(Bits("0" * 31 + "1").words(), (2 ** 31,))
        self.assertEqual(Bits("1" * 32).words(), (2 ** 32 - 1,))
        self.assertEqual(Bits("1" * 33).words(), (2 ** 32 - 1, 1))
        self.assertEqual(Bits("0" * 32 + "1").words(), (0, 1))

    def test_size_words_and_text_of_every_size(self):
        for size in SIZES + [20000]:
            for text in rows_of(size):
                row = Bits(text)
                self.assertEqual(row.size(), size)
                self.assertEqual(row.words(), words_by_places(text))
                self.assertIsInstance(row.words(), tuple)
                self.assertEqual(row.text(), text)

    def test_refused_by_size(self):
        for text in ("0" * 20001, "1" * 20001, mixed_row(20001), "0" * 20032):
            with self.assertRaises(NoBits):
                Bits(text)

    def test_refused_by_sign(self):
        for sign in ("2", " ", "a", "O", "l", "-", "_", "+", "\n", "\0", "\u0661", "\uff11", "\u00b9"):
            for text in (sign, sign + "01", "01" + sign, "0" + sign + "1", "0" * 40 + sign + "1" * 40):
                with self.subTest(text=text), self.assertRaises(NoBits):
                    Bits(text)
        for text in ("0b1", "0x1", "1_0", "+1", " 1 ", "1" * 19999 + "2"):
            with self.subTest(text=text), self.assertRaises(NoBits):
                Bits(text)

    def test_refused_what_is_no_text(self):
        for thing in [0, 1, 10, True, False, None, [], ["0", "1"], ("1",), (), {}, {"0": "1"}, b"", b"01", 1.0, set(),
                      object(), Bits("01"), 10 ** 5000]:
            with self.assertRaises(NoBits):
                Bits(thing)


class TestAsked(unittest.TestCase):
    def test_bit_of_every_place(self):
        for size in SIZES:
            for text in rows_of(size):
                row = Bits(text)
                told = [row.bit(place) for place in range(size)]
                self.assertEqual(told, [int(sign) for sign in text])
        text = mixed_row(20000)
        row = Bits(text)
        self.assertEqual("".join([str(row.bit(place)) for place in range(20000)]), text)

    def test_ones(self):
        for size in SIZES + [20000]:
            for text in rows_of(size):
                self.assertEqual(Bits(text).ones(), text.count("1"))

    def test_every_stretch(self):
        for size in SIZES:
            text = mixed_row(size)
            row = Bits(text)
            for low in range(size + 1):
                for high in range(low, size + 1):
                    self.assertEqual(row.stretch(low, high), text[low:high])

    def test_stretches_of_the_greatest_row(self):
        text = mixed_row(20000)
        row = Bits(text)
        self.assertEqual(row.stretch(0, 20000), text)
        self.assertEqual(row.stretch(20000, 20000), "")
        self.assertEqual(row.stretch(19999, 20000), text[19999])
        for low in range(0, 20000, 777):
            for high in range(low, 20000, 1234):
                self.assertEqual(row.stretch(low, high), text[low:high])

    def test_bit_refused(self):
        for size in SIZES:
            row = Bits(mixed_row(size))
            for place in no_places(size) + [size]:
                with self.assertRaises(NoPlace):
                    row.bit(place)

    def test_stretch_refused(self):
        for size in SIZES:
            row = Bits(mixed_row(size))
            for place in no_places(size):
                for low, high in ((place, size), (0, place), (place, place)):
                    with self.assertRaises(NoPlace):
                        row.stretch(low, high)

    def test_stretch_backwards_refused(self):
        row = Bits(mixed_row(40))
        for low in range(1, 41):
            for high in range(low):
                with self.assertRaises(NoPlace):
                    row.stretch(low, high)


class TestOtherRows(unittest.TestCase):
    def assert_stays(self, row, text):
        self.assertEqual(row.text(), text)
        self.assertEqual(row.size(), len(text))
        self.assertEqual(row.ones(), text.count("1"))
        self.assertEqual(row.words(), words_by_places(text))

    def test_changed(self):
        for size in SIZES:
            text = mixed_row(size)
            row = Bits(text)
            for place in range(size):
                for bit in (0, 1):
                    other = row.changed(place, bit)
                    self.assertIsInstance(other, Bits)
                    self.assert_stays(other, text[:place] + str(bit) + text[place + 1:])
            self.assert_stays(row, text)

    def test_changed_in_the_greatest_row(self):
        text = "0" * 20000
        self.assertEqual(Bits(text).changed(19999, 1).text(), "0" * 19999 + "1")

    def test_changed_is_another_row_even_where_the_bit_stays(self):
        row = Bits("01")
        self.assertIsNot(row.changed(0, 0), row)
        self.assertEqual(row.changed(0, 0).text(), "01")

    def test_changed_refused_by_place_first(self):
        for size in SIZES:
            text = mixed_row(size)
            row = Bits(text)
            for place in no_places(size) + [size]:
                for bit in (0, 1, 2, None, True, "1"):
                    with self.assertRaises(NoPlace):
                        row.changed(place, bit)
            self.assert_stays(row, text)

    def test_changed_refused_by_bit(self):
        row = Bits("0110")
        for bit in NO_WHOLE_NUMBERS + FAR_OUT + [2, 3]:
            for place in range(4):
                with self.assertRaises(NoBits):
                    row.changed(place, bit)
        self.assert_stays(row, "0110")

    def test_put_in_at_every_place(self):
        for size in SIZES:
            text = mixed_row(size)
            row = Bits(text)
            for inner in ("", "1", "0", "0110", mixed_row(32, 5), mixed_row(70, 3)):
                other = Bits(inner)
                for place in range(size + 1):
                    made = row.put_in(place, other)
                    self.assertIsInstance(made, Bits)
                    self.assert_stays(made, text[:place] + inner + text[place:])
                self.assert_stays(other, inner)
            self.assert_stays(row, text)

    def test_put_into_itself(self):
        text = mixed_row(45)
        row = Bits(text)
        for place in range(46):
            self.assert_stays(row.put_in(place, row), text[:place] + text + text[place:])
        self.assert_stays(row, text)

    def test_put_in_refused_by_place(self):
        other = Bits("10")
        for size in SIZES:
            text = mixed_row(size)
            row = Bits(text)
            for place in no_places(size):
                with self.assertRaises(NoPlace):
                    row.put_in(place, other)
            self.assert_stays(row, text)
        self.assert_stays(other, "10")

    def test_put_in_up_to_20000_bits(self):
        text = mixed_row(19999)
        row = Bits(text)
        for place in (0, 7777, 19999):
            self.assertEqual(row.put_in(place, Bits("1")).text(), text[:place] + "1" + text[place:])
            with self.assertRaises(NoBits):
                row.put_in(place, Bits("10"))
            with self.assertRaises(NoBits):
                row.put_in(place, row)
        self.assert_stays(row, text)
        half = Bits("01" * 5000)
        self.assertEqual(half.put_in(10000, half).text(), "01" * 10000)
        full = Bits("1" * 20000)
        self.assertEqual(full.put_in(20000, Bits("")).size(), 20000)
        with self.assertRaises(NoBits):
            full.put_in(0, Bits("0"))

    def test_put_in_refused_by_place_ahead_of_size(self):
        full = Bits("1" * 20000)
        with self.assertRaises(NoPlace):
            full.put_in(20001, full)

    def test_every_stretch_taken_out(self):
        for size in SIZES:
            text = mixed_row(size)
            row = Bits(text)
            for low in range(size + 1):
                for high in range(low, size + 1):
                    self.assertEqual(row.taken_out(low, high).text(), text[:low] + text[high:])
            self.assert_stays(row, text)

    def test_taken_out_is_a_full_row(self):
        text = mixed_row(100)
        made = Bits(text).taken_out(31, 65)
        self.assertIsInstance(made, Bits)
        self.assert_stays(made, text[:31] + text[65:])

    def test_taken_out_refused(self):
        for size in SIZES:
            text = mixed_row(size)
            row = Bits(text)
            for place in no_places(size):
                for low, high in ((place, size), (0, place), (place, place)):
                    with self.assertRaises(NoPlace):
                        row.taken_out(low, high)
            for low in range(1, size + 1):
                with self.assertRaises(NoPlace):
                    row.taken_out(low, low - 1)
            self.assert_stays(row, text)

    def test_put_in_and_taken_out_lead_back(self):
        row = Bits(mixed_row(80))
        inner = Bits(mixed_row(37, 9))
        for place in range(81):
            self.assertEqual(row.put_in(place, inner).taken_out(place, place + 37).text(), row.text())


if __name__ == "__main__":
    unittest.main()
