import unittest

from tests.kinds import KindCase
from tests.plain import PlainWood, chain, comb, large_woods, mixed_wood, plain_heights, small_woods
from tests.samples import no_knots
from tightwood.counted import Counted
from tightwood.errors import NoKnot
from tightwood.pairs import Pairs


def by_opening(plain):
    return list(range(plain.many_knots))


class TestCounted(KindCase):
    def test_each_question_of_each_knot(self):
        self.check_kind(Counted, by_opening)

    def test_deep_woods(self):
        for elders in (comb(999), mixed_wood(900, 12, 20), chain(16), chain(17), chain(18), chain(33)):
            self.check_answers(Counted(elders), elders, list(range(len(elders))))

    def test_by_hand(self):
        wood = Counted([-1, 0, 1, 0, -1])
        self.assertEqual(wood.row(), "11011010000")
        self.assertEqual(wood.elders(), [-1, 0, 1, 0, -1])
        self.assertEqual([wood.elder(k) for k in range(5)], [None, 0, 1, 0, None])
        self.assertEqual([wood.first(k) for k in range(5)], [1, 2, None, None, None])
        self.assertEqual([wood.last(k) for k in range(5)], [3, 2, None, None, None])
        self.assertEqual([wood.right(k) for k in range(5)], [4, 3, None, None, None])
        self.assertEqual([wood.left(k) for k in range(5)], [None, None, None, 1, 0])
        self.assertEqual([wood.many(k) for k in range(5)], [2, 1, 0, 0, 0])
        self.assertEqual([wood.beneath(k) for k in range(5)], [3, 1, 0, 0, 0])
        self.assertEqual([wood.depth(k) for k in range(5)], [0, 1, 2, 1, 0])
        self.assertEqual([wood.child_place(k) for k in range(5)], [0, 0, 0, 1, 1])
        self.assertEqual([wood.behind(k) for k in range(5)], [4, 3, 3, 4, 5])
        self.assertEqual([wood.stretch(k) for k in range(5)], [(3, 10), (6, 9), (8, 9), (9, 10), (10, 11)])
        self.assertEqual([wood.lies_beneath(2, k) for k in range(5)], [True, True, True, False, False])

    def test_row(self):
        self.assertEqual(Counted([]).row(), "0")
        self.assertEqual(Counted([-1]).row(), "100")
        self.assertEqual(Counted([-1, -1]).row(), "11000")
        self.assertEqual(Counted([-1, 0]).row(), "10100")
        for elders in small_woods() + large_woods():
            row = Counted(elders).row()
            self.assertEqual(row, PlainWood(elders).counted_row(range(len(elders))))
            self.assertEqual(len(row), 2 * len(elders) + 1)

    def test_with_a_one_ahead_all_signs_are_paired(self):
        for elders in small_woods() + large_woods():
            row = "1" + Counted(elders).row()
            heights = plain_heights(row)
            self.assertEqual((min(heights), heights[-1]), (0, 0))
            self.assertEqual(Pairs(row).size(), 2 * len(elders) + 2)

    def test_the_wood_without_knots(self):
        wood = Counted([])
        self.assertEqual((wood.many_knots(), wood.elders(), wood.row()), (0, [], "0"))

    def test_no_woods(self):
        self.check_no_woods(Counted)

    def test_no_knots(self):
        self.check_no_knots(Counted, ("child_place", "behind", "stretch"))

    def test_no_numbers(self):
        self.check_no_numbers(Counted)

    def test_is_apart(self):
        self.check_is_apart(Counted)


class TestAlsoTold(unittest.TestCase):
    def test_child_place_of_every_knot(self):
        for elders in small_woods() + large_woods():
            wood = Counted(elders)
            self.assertEqual([wood.child_place(k) for k in range(len(elders))], PlainWood(elders).places)

    def test_behind_every_knot(self):
        for elders in small_woods() + large_woods():
            wood = Counted(elders)
            plain = PlainWood(elders)
            behind = [k + plain.beneath[k] + 1 for k in range(len(elders))]
            self.assertEqual([wood.behind(k) for k in range(len(elders))], behind)

    def test_behind_is_the_least_above_that_does_not_lie_beneath(self):
        for elders in small_woods(5):
            wood = Counted(elders)
            plain = PlainWood(elders)
            for k in range(len(elders)):
                apart = [one for one in range(k + 1, len(elders)) if k not in plain.upward(one)]
                self.assertEqual(wood.behind(k), apart[0] if apart else len(elders))

    def check_lies_beneath(self, elders, knots):
        wood = Counted(elders)
        plain = PlainWood(elders)
        for k in knots:
            way = plain.upward(k)
            for other in knots:
                self.assertIs(wood.lies_beneath(k, other), other in way)

    def test_lies_beneath(self):
        for elders in small_woods():
            self.check_lies_beneath(elders, range(len(elders)))
        for elders in large_woods():
            self.check_lies_beneath(elders, list(range(0, len(elders), len(elders) // 29)) + [len(elders) - 1])

    def test_lies_beneath_refused(self):
        for elders in ([], [-1], [-1, 0, 0, -1]):
            wood = Counted(elders)
            for k in no_knots(len(elders)):
                for other in list(range(len(elders))) + [k]:
                    with self.assertRaises(NoKnot):
                        wood.lies_beneath(k, other)
                    with self.assertRaises(NoKnot):
                        wood.lies_beneath(other, k)

    def test_a_stretch_holds_just_the_groups_of_a_knot_and_of_all_beneath_it(self):
        for elders in small_woods() + large_woods():
            wood = Counted(elders)
            plain = PlainWood(elders)
            row = wood.row()
            groups = ["1" * many + "0" for many in [len(plain.tops)] + [len(some) for some in plain.children]]
            ends = [0]
            for group in groups:
                ends.append(ends[-1] + len(group))
            for k in range(len(elders)):
                low, high = wood.stretch(k)
                # The group of the knot k stands behind that of the tops and of the knots ahead of it.
                self.assertEqual((low, high), (ends[k + 1], ends[k + plain.beneath[k] + 2]))
                self.assertIsInstance(wood.stretch(k), tuple)
                self.assertEqual(row[low:high].count("0"), plain.beneath[k] + 1)


if __name__ == "__main__":
    unittest.main()
