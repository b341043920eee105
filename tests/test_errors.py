import unittest

from tightwood import errors
from tightwood.bits import Bits
from tightwood.counts import Counts

PLAIN = ["NoBits", "NoPlace", "NoKnot", "NoFit", "NoGraft", "TooLarge", "NoDeed", "NoNumber", "NoLine", "Nobody",
         "Nameless"]
PLACED = ["NoRow", "NoWood", "NoOrder", "NoName"]


def refusal_of(deed):
    try:
        deed()
    except Exception as error:
        return error
    return None


class TestErrors(unittest.TestCase):
    def test_wood_error_is_a_value_error(self):
        self.assertEqual(errors.WoodError.__bases__, (ValueError,))
        self.assertEqual(str(errors.WoodError("so")), "so")

    def test_each_stands_straight_under_wood_error(self):
        for name in PLAIN + PLACED:
            with self.subTest(name=name):
                self.assertEqual(getattr(errors, name).__bases__, (errors.WoodError,))

    def test_none_is_another_one(self):
        for name in PLAIN + PLACED:
            made = getattr(errors, name)("so") if name in PLAIN else getattr(errors, name)(3)
            for other in PLAIN + PLACED:
                with self.subTest(name=name, other=other):
                    self.assertEqual(isinstance(made, getattr(errors, other)), name == other)

    def test_without_fields_made_of_a_text(self):
        for name in PLAIN:
            with self.subTest(name=name):
                made = getattr(errors, name)("some words")
                self.assertEqual(str(made), "some words")
                self.assertFalse(hasattr(made, "place"))

    def test_with_the_field_place(self):
        for name in PLACED:
            for place in (0, 1, 4000, None):
                with self.subTest(name=name, place=place):
                    made = getattr(errors, name)(place)
                    self.assertEqual(made.place, place)
                    self.assertIsInstance(str(made), str)

    def test_what_is_raised_is_of_the_very_class(self):
        row = Bits("01")
        counts = Counts(row)
        for deed, kind in [
            (lambda: Bits("2"), errors.NoBits),
            (lambda: row.bit(2), errors.NoPlace),
            (lambda: row.stretch(1, 0), errors.NoPlace),
            (lambda: row.changed(0, 2), errors.NoBits),
            (lambda: row.put_in(3, row), errors.NoPlace),
            (lambda: row.taken_out(0, 3), errors.NoPlace),
            (lambda: counts.ahead(2, 0), errors.NoBits),
            (lambda: counts.place_of(1, 1), errors.NoPlace),
            (lambda: counts.next_from(0, 3), errors.NoPlace),
            (lambda: counts.last_ahead(0, 3), errors.NoPlace),
        ]:
            error = refusal_of(deed)
            self.assertIs(type(error), kind)
            self.assertIsInstance(error, errors.WoodError)
            self.assertIsInstance(error, ValueError)


if __name__ == "__main__":
    unittest.main()
