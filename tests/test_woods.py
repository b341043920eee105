import unittest

from tests.kinds import NO_WOODS
from tests.plain import all_balanced, all_tops, chain, large_woods, mixed_wood, plain_elders, small_woods
from tests.samples import FAR_OUT, NO_WHOLE_NUMBERS
from tightwood.errors import NoRow, NoWood
from tightwood.woods import Wood, elders_of, look_at, row_of

METHODS = ("many_knots elders row elder first last right left many nth beneath depth").split()


def barred_at(elders):
    """The first place at which a list of whole numbers is no wood, or None."""
    for k, elder in enumerate(elders):
        allowed = [-1]
        above = k - 1
        while above != -1:
            allowed.append(above)
            above = elders[above]
        if elder not in allowed:
            return k
    return None


class TestLookAt(unittest.TestCase):
    def test_woods(self):
        for elders in small_woods() + large_woods() + [[], [-1], chain(4000), all_tops(4000), mixed_wood(4000, 9)]:
            self.assertEqual(look_at(elders), elders)

    def test_every_short_list_is_a_wood_or_barred_at_the_first_place(self):
        for size in range(6):
            for number in range((size + 3) ** size):
                elders = [number // (size + 3) ** place % (size + 3) - 2 for place in range(size)]
                place = barred_at(elders)
                if place is None:
                    self.assertEqual(look_at(elders), elders)
                else:
                    with self.assertRaises(NoWood) as caught:
                        look_at(elders)
                    self.assertEqual(caught.exception.place, place)

    def test_what_is_no_wood(self):
        for thing, place in NO_WOODS:
            with self.assertRaises(NoWood) as caught:
                look_at(thing)
            self.assertEqual(caught.exception.place, place)
            self.assertIs(type(caught.exception), NoWood)

    def test_each_kind_of_what_is_no_whole_number(self):
        for thing in NO_WHOLE_NUMBERS:
            for k in range(4):
                with self.assertRaises(NoWood) as caught:
                    look_at([-1] * k + [thing] + [-1] * 3)
                self.assertEqual(caught.exception.place, k)

    def test_the_told_list_is_a_new_one(self):
        elders = [-1, 0, 0, -1]
        told = look_at(elders)
        self.assertIsNot(told, elders)
        told[0] = 5
        told.append(6)
        self.assertEqual(elders, [-1, 0, 0, -1])
        elders[1] = -1
        self.assertEqual(told, [5, 0, 0, -1, 6])

    def test_what_is_refused_stays(self):
        elders = [-1, 0, 5, None]
        with self.assertRaises(NoWood):
            look_at(elders)
        self.assertEqual(elders, [-1, 0, 5, None])


class TestRows(unittest.TestCase):
    def test_by_hand(self):
        for elders, row in [
            ([], ""), ([-1], "10"), ([-1, -1], "1010"), ([-1, 0], "1100"), ([-1, 0, 0], "110100"),
            ([-1, 0, 1], "111000"), ([-1, 0, 1, 0, -1], "1110010010"), ([-1, 0, 1, 2, 0], "1111000100"),
        ]:
            self.assertEqual(row_of(elders), row)
            self.assertEqual(elders_of(row), elders)

    def test_wood_and_row_lead_to_one_another(self):
        for many in range(8):
            for row in all_balanced(many):
                elders = elders_of(row)
                self.assertEqual(elders, plain_elders(row))
                self.assertEqual(look_at(elders), elders)
                self.assertEqual(row_of(elders), row)

    def test_large_woods(self):
        for elders in large_woods():
            self.assertEqual(elders_of(row_of(elders)), elders)
        self.assertEqual(row_of(chain(4000)), "1" * 4000 + "0" * 4000)
        self.assertEqual(row_of(all_tops(4000)), "10" * 4000)

    def test_an_opening_stands_at_twice_the_number_less_the_depth(self):
        for elders in small_woods() + large_woods():
            row = row_of(elders)
            depths = []
            for k, elder in enumerate(elders):
                depths.append(0 if elder == -1 else depths[elder] + 1)
                self.assertEqual(row[2 * k - depths[k]], "1")
            self.assertEqual(row.count("1"), len(elders))
            self.assertEqual(len(row), 2 * len(elders))

    def test_told_lists_are_new_and_nothing_is_changed(self):
        elders = [-1, 0, 0, -1]
        row_of(elders)
        self.assertEqual(elders, [-1, 0, 0, -1])
        told = elders_of("1100")
        told.append(9)
        self.assertEqual(elders_of("1100"), [-1, 0])

    def test_row_of_what_is_no_wood(self):
        for thing, place in NO_WOODS:
            with self.assertRaises(NoWood) as caught:
                row_of(thing)
            self.assertEqual(caught.exception.place, place)

    def assert_barred(self, thing, place):
        with self.assertRaises(NoRow) as caught:
            elders_of(thing)
        self.assertEqual(caught.exception.place, place)

    def test_elders_of_what_is_no_balanced_row(self):
        for text, place in [
            ("0", 0), ("1", 1), ("100", 2), ("110", 3), ("x", 0), ("1x", 1), ("10 10", 2), ("10" * 300 + "2", 600),
            ("1" * 8000, 8000), ("1" * 8001, 8001), ("1" * 8192, 8192), ("1" * 8193, 8192), ("10" * 4000 + "0", 8000),
        ]:
            self.assert_barred(text, place)
        for thing in NO_WHOLE_NUMBERS + FAR_OUT + [0, ["1", "0"], ("1", "0"), b"10"]:
            if not isinstance(thing, str):
                self.assert_barred(thing, 0)

    def test_elders_of_more_than_8000_bits(self):
        self.assertEqual(len(elders_of("10" * 4000)), 4000)
        for text in ("10" * 4001, "10" * 4096, "1" * 4001 + "0" * 4001, "1" * 4096 + "0" * 4096):
            self.assert_barred(text, 8000)

    def test_what_else_bars_a_longer_row_comes_first(self):
        self.assert_barred("10" * 4001 + "0", 8002)
        self.assert_barred("10" * 4001 + "1", 8003)
        self.assert_barred("10" * 4001 + "x", 8002)
        self.assert_barred("10" * 4000 + "x", 8000)
        self.assert_barred("10" * 4097, 8192)
        self.assert_barred("100" + "10" * 4096, 2)


class TestWood(unittest.TestCase):
    def test_a_base_with_the_methods_that_its_kinds_answer(self):
        wood = Wood()
        for name in METHODS:
            self.assertTrue(callable(getattr(wood, name)))

    def test_it_answers_nothing_itself(self):
        wood = Wood()
        for name in METHODS:
            things = [0, 0] if name == "nth" else [] if name in ("many_knots", "elders", "row") else [0]
            with self.assertRaises(NotImplementedError):
                getattr(wood, name)(*things)


if __name__ == "__main__":
    unittest.main()
