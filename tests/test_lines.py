import unittest

from tests.plain import chain, large_woods, mixed_wood, small_woods
from tightwood.lines import shown_list, wood_of_word, written_number
from tightwood.woods import row_of


class TestWrittenNumber(unittest.TestCase):
    def test_numbers(self):
        for number in list(range(1200)) + [4000, 9999, 10000, 10 ** 119, 10 ** 120 - 1]:
            word = str(number)
            for figures in (len(word), len(word) + 1, 120, 1000):
                if len(word) <= figures:
                    self.assertEqual(written_number(word, figures), number)
            for figures in range(len(word)):
                self.assertIsNone(written_number(word, figures))

    def test_noughts(self):
        self.assertEqual(written_number("0", 1), 0)
        self.assertEqual(written_number("10", 4), 10)
        for word in ("00", "01", "007", "0000", "00000", "0" * 120):
            self.assertIsNone(written_number(word, 4))
            self.assertIsNone(written_number(word, 120))

    def test_other_signs(self):
        for word in ("", " ", "-", "-1", "+1", "1 ", " 1", "1\n", "1_0", "1.0", "1e3", "0x1", "a", "1a", "a1", "1,2",
                     "\t1", "none", "top"):
            for figures in (0, 1, 4, 120):
                self.assertIsNone(written_number(word, figures))

    def test_many_figures(self):
        self.assertEqual(written_number("9" * 120, 120), 10 ** 120 - 1)
        self.assertIsNone(written_number("9" * 121, 120))
        self.assertEqual(written_number("1" + "0" * 5000, 6000), 10 ** 5000)

    def test_what_is_no_word(self):
        for thing in (None, 1, True, [], ["1"], ("1",), {}, b"1", 1.0):
            self.assertIsNone(written_number(thing, 4))


class TestWoodOfWord(unittest.TestCase):
    def test_rows(self):
        for elders in small_woods()[1:] + large_woods():
            self.assertEqual(wood_of_word(row_of(elders)), elders)

    def test_the_wood_without_knots(self):
        self.assertEqual(wood_of_word("-"), [])
        self.assertIsNone(wood_of_word(""))

    def test_what_writes_no_wood(self):
        for word in ("1", "0", "01", "100", "110", "1001", "--", "-10", "10-", "1 0", "10 ", " 10", "10\n", "12", "a",
                     "none", "1010x", "1" * 8000, "10" * 4001, "1" * 4001 + "0" * 4001,
                     row_of(mixed_wood(4000)) + "10"):
            self.assertIsNone(wood_of_word(word))

    def test_what_is_no_word(self):
        for thing in (None, 10, True, [], ["1", "0"], ("10",), {}, b"10", 1.0):
            self.assertIsNone(wood_of_word(thing))

    def test_told_lists_are_new_ones(self):
        for word in ("-", "1100"):
            told = wood_of_word(word)
            kept = list(told)
            told.append(3)
            self.assertEqual(wood_of_word(word), kept)

    def test_4000_knots(self):
        self.assertEqual(wood_of_word("1" * 4000 + "0" * 4000), chain(4000))


class TestShownList(unittest.TestCase):
    def test_lists(self):
        self.assertEqual(shown_list([]), "-")
        self.assertEqual(shown_list([0]), "0")
        self.assertEqual(shown_list([3]), "3")
        self.assertEqual(shown_list([0, 1, 17]), "0,1,17")
        self.assertEqual(shown_list([-1, 0]), "-1,0")
        self.assertEqual(shown_list(["a", "bc"]), "a,bc")
        self.assertEqual(shown_list([1, None, 2]), "1,none,2")
        self.assertEqual(shown_list(list(range(4000))), ",".join([str(k) for k in range(4000)]))

    def test_the_list_stays(self):
        some = [2, 1]
        shown_list(some)
        self.assertEqual(some, [2, 1])


if __name__ == "__main__":
    unittest.main()
