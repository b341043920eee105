import unittest

from tests.plain import (PlainWood, all_tops, all_woods, brush, chain, comb, large_woods, mixed_wood, plain_cut,
                         plain_graft, small_woods)
from tests.samples import no_knots
from tightwood.alike import first_unlike, open_number, own_number, paper_of, same_shape
from tightwood.counted import Counted
from tightwood.errors import NoKnot
from tightwood.levels import Levelled
from tightwood.opened import Opened
from tightwood.shaped import Shaped


def grown(elders):
    """A wood in pieces that has these elders behind cuts, grafts and deeds that were taken back."""
    wood = Shaped(elders)
    if len(elders) == 0:
        wood.graft(None, 0, [-1, 0])
        wood.cut(0)
    else:
        wood.graft(None, 0, wood.cut(0))
        wood.cut(len(elders) // 2)
        wood.graft(None, 0, [-1])
        wood.take_back()
        wood.take_back()
    return wood


KINDS = (Opened, Levelled, Counted, Shaped, grown)


def plain_paper(plain, k):
    return (plain.elder(k), plain.first(k), plain.last(k), plain.left(k), plain.right(k), plain.many(k),
            plain.beneath[k], plain.depths[k])


class TestNumbers(unittest.TestCase):
    def test_by_hand(self):
        elders = [-1, 0, 1, 0, -1, 4]
        wood = Levelled(elders)
        self.assertEqual([own_number(wood, k) for k in range(6)], [0, 2, 5, 3, 1, 4])
        self.assertEqual([open_number(wood, k) for k in range(6)], [0, 4, 1, 3, 5, 2])

    def test_of_every_knot(self):
        for elders in small_woods() + large_woods():
            by_levels = PlainWood(elders).by_levels
            knots = list(range(len(elders)))
            for kind in KINDS:
                wood = kind(elders)
                order = by_levels if kind is Levelled else knots
                self.assertEqual([open_number(wood, k) for k in knots], order)
                self.assertEqual([own_number(wood, order[k]) for k in knots], knots)

    def test_no_knots(self):
        for elders in ([], [-1], [-1, 0, 0, -1], chain(300)):
            for kind in KINDS:
                wood = kind(elders)
                for k in no_knots(len(elders)):
                    for ask in (own_number, open_number, paper_of):
                        with self.assertRaises(NoKnot):
                            ask(wood, k)

    def test_no_knots_behind_a_cut(self):
        wood = Shaped([-1, 0, 0])
        self.assertEqual((own_number(wood, 2), open_number(wood, 2)), (2, 2))
        wood.cut(1)
        for ask in (own_number, open_number, paper_of):
            with self.assertRaises(NoKnot):
                ask(wood, 2)
        wood.take_back()
        self.assertEqual(paper_of(wood, 2), (0, None, None, 1, None, 0, 0, 1))


class TestPapers(unittest.TestCase):
    def test_by_hand(self):
        for kind in KINDS:
            wood = kind([-1, 0, 1, 0, -1])
            self.assertEqual(paper_of(wood, 0), (None, 1, 3, None, 4, 2, 3, 0))
            self.assertEqual(paper_of(wood, 3), (0, None, None, 1, None, 0, 0, 1))
            self.assertEqual(paper_of(wood, 4), (None, None, None, 0, None, 0, 0, 0))
            self.assertIs(type(paper_of(wood, 0)), tuple)

    def check_papers(self, wood, elders, step):
        plain = PlainWood(elders)
        for k in range(0, len(elders), step):
            self.assertEqual(paper_of(wood, k), plain_paper(plain, k))

    def test_of_every_knot(self):
        for kind in KINDS:
            for elders in small_woods(5):
                self.check_papers(kind(elders), elders, 1)
            for elders in large_woods():
                self.check_papers(kind(elders), elders, 1 if len(elders) < 600 else 37)

    def test_of_every_knot_of_4000_by_levels(self):
        for elders in (chain(4000), mixed_wood(4000)):
            self.check_papers(Levelled(elders), elders, 1)

    def test_behind_each_deed(self):
        elders = mixed_wood(120, 4)
        wood = Shaped(elders)
        for k in (100, 61, 40, 7):
            kept = elders
            elders = plain_cut(elders, k % len(elders))[1]
            wood.cut(k % len(kept))
            self.check_papers(wood, elders, 1)
            elders = plain_graft(elders, None, 1, [-1, 0, 0])
            wood.graft(None, 1, [-1, 0, 0])
            self.check_papers(wood, elders, 1)
        wood.take_back()
        wood.take_back()
        self.check_papers(wood, kept, 1)


class TestShapes(unittest.TestCase):
    def check_two(self, one, other, first):
        others = [kind(other) for kind in KINDS]
        for wood in [kind(one) for kind in KINDS]:
            for against in others:
                for left, right in ((wood, against), (against, wood)):
                    self.assertEqual(first_unlike(left, right), first)
                    self.assertIs(same_shape(left, right), first is None)

    def test_by_hand(self):
        self.check_two([], [], None)
        self.check_two([], [-1], 0)
        self.check_two([-1], [-1, 0], 1)
        self.check_two([-1, 0], [-1, -1], 1)
        self.check_two([-1, 0, 0], [-1, 0, 0], None)
        self.check_two([-1, 0, 0], [-1, 0, 1], 2)
        self.check_two([-1, 0, 0], [-1, 0, 0, 0, -1], 3)
        self.check_two([-1, 0, 0, -1], [-1, 0, 1], 2)

    def test_all_pairs_of_small_woods(self):
        woods = [elders for many in range(5) for elders in all_woods(many)]
        for one in woods:
            for other in woods:
                unlike = [k for k in range(max(len(one), len(other))) if one[k:k + 1] != other[k:k + 1]]
                wood = Levelled(one)
                against = Counted(other)
                self.assertEqual(first_unlike(wood, against), unlike[0] if unlike else None)
                self.assertIs(same_shape(wood, against), one == other)

    def test_large_woods(self):
        self.check_two(chain(300), all_tops(300), 1)
        self.check_two(brush(300), brush(299), 299)
        self.check_two(mixed_wood(500), mixed_wood(500), None)
        self.check_two(mixed_wood(500), mixed_wood(400), 400)
        self.check_two(comb(300), comb(298) + [-1, -1], 298)
        elders = mixed_wood(4000)
        self.check_two(elders, elders[:3999] + [-1], None if elders[3999] == -1 else 3999)
        self.check_two(chain(4000), chain(4000), None)

    def test_a_wood_and_itself(self):
        wood = Shaped([-1, 0, 0])
        self.assertIsNone(first_unlike(wood, wood))
        self.assertIs(same_shape(wood, wood), True)
        wood.cut(1)
        self.assertEqual(first_unlike(wood, Opened([-1, 0, 0])), 2)
        self.assertIs(same_shape(wood, Counted([-1, 0])), True)


if __name__ == "__main__":
    unittest.main()
