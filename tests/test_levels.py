import unittest

from tests.kinds import KindCase
from tests.plain import PlainWood, brush, chain, comb, large_woods, mixed_wood, small_woods
from tests.samples import NO_NUMBERS, no_knots
from tightwood.errors import NoKnot, NoPlace
from tightwood.levels import Levelled


def levels_walked(elders):
    """The knots level by level, by number by opening: a walk of its own."""
    plain = PlainWood(elders)
    levels = []
    now = plain.tops
    while now:
        levels.append(now)
        now = [child for k in now for child in plain.children[k]]
    return levels


def spans_of(widths):
    spans = []
    low = 0
    for width in widths:
        spans.append((low, low + width))
        low += width
    return spans


class TestLevelled(KindCase):
    def test_each_question_of_each_knot(self):
        self.check_kind(Levelled, lambda plain: plain.by_levels)

    def test_combs_with_leaves_on_many_levels(self):
        for elders in (comb(999), mixed_wood(900, 12, 20), chain(40), chain(17), chain(18), chain(33)):
            self.check_answers(Levelled(elders), elders, PlainWood(elders).by_levels)

    def test_by_hand(self):
        wood = Levelled([-1, 0, 1, 0, -1])
        self.assertEqual(wood.row(), "11011001000")
        self.assertEqual(wood.elders(), [-1, 0, 1, 0, -1])
        self.assertEqual([wood.elder(k) for k in range(5)], [None, None, 0, 0, 2])
        self.assertEqual([wood.first(k) for k in range(5)], [2, None, 4, None, None])
        self.assertEqual([wood.last(k) for k in range(5)], [3, None, 4, None, None])
        self.assertEqual([wood.right(k) for k in range(5)], [1, None, 3, None, None])
        self.assertEqual([wood.left(k) for k in range(5)], [None, 0, None, 2, None])
        self.assertEqual([wood.many(k) for k in range(5)], [2, 0, 1, 0, 0])
        self.assertEqual([wood.beneath(k) for k in range(5)], [3, 0, 1, 0, 0])
        self.assertEqual([wood.depth(k) for k in range(5)], [0, 0, 1, 1, 2])
        self.assertEqual([wood.child_place(k) for k in range(5)], [0, 1, 0, 1, 0])
        self.assertEqual([wood.level(deep) for deep in range(4)], [(0, 2), (2, 4), (4, 5), None])
        self.assertEqual([wood.level_of(0, deep) for deep in range(4)], [(0, 1), (2, 4), (4, 5), None])
        self.assertEqual([wood.level_of(1, deep) for deep in range(2)], [(1, 2), None])
        self.assertEqual((wood.levels(), wood.widest()), (3, 0))

    def test_row(self):
        self.assertEqual(Levelled([]).row(), "0")
        self.assertEqual(Levelled([-1]).row(), "100")
        self.assertEqual(Levelled([-1, -1]).row(), "11000")
        self.assertEqual(Levelled([-1, 0]).row(), "10100")
        for elders in small_woods() + large_woods():
            walked = [k for level in levels_walked(elders) for k in level]
            row = Levelled(elders).row()
            self.assertEqual(row, PlainWood(elders).counted_row(walked))
            self.assertEqual((row.count("1"), row.count("0")), (len(elders), len(elders) + 1))

    def test_no_woods(self):
        self.check_no_woods(Levelled)

    def test_no_knots(self):
        self.check_no_knots(Levelled, ("child_place",))

    def test_no_numbers(self):
        self.check_no_numbers(Levelled)

    def test_is_apart(self):
        self.check_is_apart(Levelled)


class TestLevels(unittest.TestCase):
    def test_levels(self):
        for elders in small_woods() + large_woods():
            wood = Levelled(elders)
            widths = [len(level) for level in levels_walked(elders)]
            spans = spans_of(widths)
            self.assertEqual([wood.level(deep) for deep in range(len(spans))], spans)
            for beyond in (len(spans), len(spans) + 1, 4000, 10 ** 5000):
                self.assertIsNone(wood.level(beyond))
            self.assertEqual(wood.levels(), len(widths))
            self.assertEqual(wood.widest(), widths.index(max(widths)) if widths else None)

    def test_the_wood_without_knots(self):
        wood = Levelled([])
        self.assertEqual((wood.levels(), wood.widest(), wood.level(0), wood.elders()), (0, None, None, []))

    def test_the_first_of_several_widest(self):
        self.assertEqual(Levelled([-1, 0, 1, 0]).widest(), 1)
        self.assertEqual(Levelled([-1, 0, 1, 0, 3]).widest(), 1)
        self.assertEqual(Levelled([-1, 0, -1, 2]).widest(), 0)
        self.assertEqual(Levelled(chain(50)).widest(), 0)
        self.assertEqual(Levelled(brush(50)).widest(), 1)

    def check_levels_of(self, elders, asked, deeps):
        wood = Levelled(elders)
        plain = PlainWood(elders)
        own = {k: number for number, k in enumerate(plain.by_levels)}
        for number in asked:
            now = [plain.by_levels[number]]
            deep = 0
            while now:
                if deep in deeps:
                    told = wood.level_of(number, deep)
                    self.assertEqual(told, (own[now[0]], own[now[-1]] + 1))
                    self.assertIsInstance(told, tuple)
                now = [child for k in now for child in plain.children[k]]
                deep += 1
            for beyond in (deep, deep + 1, deep + 16, deep + 4000, 10 ** 5000):
                self.assertIsNone(wood.level_of(number, beyond))

    def test_level_of(self):
        for elders in small_woods():
            self.check_levels_of(elders, range(len(elders)), range(10))
        for elders in [chain(300), comb(300), mixed_wood(700, 3), mixed_wood(600, 5, 30), brush(100)]:
            self.check_levels_of(elders, range(0, len(elders), 3), range(300))

    def test_level_of_in_the_largest_woods(self):
        self.check_levels_of(chain(4000), [0, 1, 1999, 3983, 3984, 3999], range(0, 4000, 61))
        self.check_levels_of(chain(4000), [0], range(4000))
        self.check_levels_of([-1] * 4000, [0, 3999], range(3))
        self.check_levels_of(mixed_wood(4000), range(0, 4000, 101), range(4000))

    def test_refused(self):
        for elders in ([], [-1], [-1, 0, 0, -1]):
            wood = Levelled(elders)
            for deep in NO_NUMBERS:
                with self.assertRaises(NoPlace):
                    wood.level(deep)
                for k in range(len(elders)):
                    with self.assertRaises(NoPlace):
                        wood.level_of(k, deep)
            for k in no_knots(len(elders)):
                for deep in (0, 1, -1, None, True, "0"):
                    with self.assertRaises(NoKnot):
                        wood.level_of(k, deep)


class TestChildPlace(unittest.TestCase):
    def test_child_place_of_every_knot(self):
        for elders in small_woods() + large_woods():
            plain = PlainWood(elders)
            wood = Levelled(elders)
            told = [wood.child_place(number) for number in range(len(elders))]
            self.assertEqual(told, [plain.places[k] for k in plain.by_levels])


if __name__ == "__main__":
    unittest.main()
