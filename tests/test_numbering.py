import unittest

from tests.kinds import NO_WOODS
from tests.plain import PlainWood, large_woods, small_woods
from tightwood.errors import NoWood
from tightwood.numbering import level_numbers, open_numbers


def knots_by_levels(elders):
    """The tops, then the children of each one in turn, and so on."""
    plain = PlainWood(elders)
    met = list(plain.tops)
    for k in met:
        met.extend(plain.children[k])
    return met


class TestNumbering(unittest.TestCase):
    def test_by_hand(self):
        elders = [-1, 0, 1, 0, -1, 4]
        self.assertEqual(open_numbers(elders), [0, 4, 1, 3, 5, 2])
        self.assertEqual(level_numbers(elders), [0, 2, 5, 3, 1, 4])
        self.assertEqual((open_numbers([]), level_numbers([])), ([], []))

    def test_all_numbers(self):
        for elders in small_woods(7) + large_woods():
            opened = open_numbers(elders)
            levels = level_numbers(elders)
            self.assertEqual(opened, knots_by_levels(elders))
            knots = list(range(len(elders)))
            self.assertEqual([opened[number] for number in levels], knots)
            self.assertEqual([levels[number] for number in opened], knots)

    def test_no_woods(self):
        for thing, place in NO_WOODS:
            for ask in (level_numbers, open_numbers):
                with self.assertRaises(NoWood) as caught:
                    ask(thing)
                self.assertEqual(caught.exception.place, place)

    def test_told_lists_are_new_ones_and_the_elders_stay(self):
        for ask in (level_numbers, open_numbers):
            for elders in ([], [-1], [-1, 0, 0, -1]):
                handed = list(elders)
                told = ask(handed)
                kept = list(told)
                self.assertEqual(handed, elders)
                self.assertIsNot(told, handed)
                told.append(7)
                self.assertEqual((ask(handed), handed), (kept, elders))


if __name__ == "__main__":
    unittest.main()
