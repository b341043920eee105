import unittest

from tests.kinds import KindCase
from tests.plain import PlainWood, all_tops, chain, comb, large_woods, mixed_wood, plain_partners, small_woods
from tests.samples import FAR_OUT, NO_NUMBERS, NO_WHOLE_NUMBERS, no_knots
from tightwood.errors import NoKnot, NoPlace
from tightwood.opened import Opened
from tightwood.woods import row_of


def by_opening(plain):
    return list(range(plain.many_knots))


class TestOpened(KindCase):
    def test_each_question_of_each_knot(self):
        self.check_kind(Opened, by_opening)

    def test_by_hand(self):
        wood = Opened([-1, 0, 1, 0, -1])
        self.assertEqual(wood.row(), "1110010010")
        self.assertEqual([wood.elder(k) for k in range(5)], [None, 0, 1, 0, None])
        self.assertEqual([wood.first(k) for k in range(5)], [1, 2, None, None, None])
        self.assertEqual([wood.last(k) for k in range(5)], [3, 2, None, None, None])
        self.assertEqual([wood.right(k) for k in range(5)], [4, 3, None, None, None])
        self.assertEqual([wood.left(k) for k in range(5)], [None, None, None, 1, 0])
        self.assertEqual([wood.many(k) for k in range(5)], [2, 1, 0, 0, 0])
        self.assertEqual([wood.beneath(k) for k in range(5)], [3, 1, 0, 0, 0])
        self.assertEqual([wood.depth(k) for k in range(5)], [0, 1, 2, 1, 0])
        self.assertEqual([wood.nth(0, i) for i in range(4)], [1, 3, None, None])
        self.assertEqual([wood.opening(k) for k in range(5)], [0, 1, 2, 5, 8])
        self.assertEqual([wood.closing(k) for k in range(5)], [7, 4, 3, 6, 9])
        self.assertEqual([wood.knot_at(place) for place in range(10)], [0, 1, 2, 2, 1, 3, 3, 0, 4, 4])
        self.assertEqual([wood.up(2, many) for many in range(4)], [2, 1, 0, None])
        self.assertEqual([wood.nearest(2, k) for k in range(5)], [0, 1, 2, 0, None])
        self.assertEqual([wood.is_beneath(2, k) for k in range(5)], [True, True, False, False, False])
        self.assertEqual([wood.top(i) for i in range(4)], [0, 4, None, None])
        self.assertEqual(wood.many_tops(), 2)

    def test_row(self):
        for elders in small_woods() + large_woods():
            self.assertEqual(Opened(elders).row(), row_of(elders))

    def test_the_wood_without_knots(self):
        wood = Opened([])
        self.assertEqual((wood.many_knots(), wood.elders(), wood.row(), wood.many_tops()), (0, [], "", 0))
        self.assertIsNone(wood.top(0))

    def test_no_woods(self):
        self.check_no_woods(Opened)

    def test_no_knots(self):
        self.check_no_knots(Opened, ("opening", "closing"))

    def test_no_numbers(self):
        self.check_no_numbers(Opened)

    def test_is_apart(self):
        self.check_is_apart(Opened)


class TestPlaces(unittest.TestCase):
    def test_opening_closing_and_knot_at_every_place(self):
        for elders in small_woods() + large_woods():
            wood = Opened(elders)
            row = row_of(elders)
            partners = plain_partners(row)
            openings = [place for place, sign in enumerate(row) if sign == "1"]
            self.assertEqual([wood.opening(k) for k in range(len(elders))], openings)
            self.assertEqual([wood.closing(k) for k in range(len(elders))], [partners[place] for place in openings])
            knots = {place: k for k, place in enumerate(openings)}
            told = [wood.knot_at(place) for place in range(len(row))]
            self.assertEqual(told, [knots[min(place, partners[place])] for place in range(len(row))])

    def test_knot_at_what_is_no_place(self):
        for elders in ([], [-1], [-1, 0, 0, -1]):
            wood = Opened(elders)
            for place in NO_WHOLE_NUMBERS + FAR_OUT + [2 * len(elders), 2 * len(elders) + 1]:
                with self.assertRaises(NoPlace):
                    wood.knot_at(place)


class TestUp(unittest.TestCase):
    def check_up(self, elders, step):
        wood = Opened(elders)
        plain = PlainWood(elders)
        for k in range(0, len(elders), step):
            way = plain.upward(k)
            asked = range(len(way)) if len(way) < 40 else list(range(0, len(way), 37)) + [len(way) - 1]
            for many in asked:
                self.assertEqual(wood.up(k, many), way[many])
            for many in (len(way), len(way) + 1, 4000, 10 ** 5000):
                self.assertIsNone(wood.up(k, many))

    def test_up(self):
        for elders in small_woods():
            self.check_up(elders, 1)
        for elders in large_woods():
            self.check_up(elders, 7)

    def test_elder_by_elder_the_depth_falls_by_one(self):
        for elders in small_woods(5) + [mixed_wood(400)]:
            wood = Opened(elders)
            for k in range(len(elders)):
                depth = wood.depth(k)
                while depth > 0:
                    k = wood.elder(k)
                    depth -= 1
                    self.assertEqual(wood.depth(k), depth)
                self.assertIsNone(wood.elder(k))

    def test_refused(self):
        wood = Opened([-1, 0, 0, -1])
        for many in NO_NUMBERS:
            for k in range(4):
                with self.assertRaises(NoPlace):
                    wood.up(k, many)
        for k in no_knots(4):
            for many in (0, 1, -1, None, True):
                with self.assertRaises(NoKnot):
                    wood.up(k, many)


class TestTwo(unittest.TestCase):
    def check_two(self, elders, pairs):
        wood = Opened(elders)
        plain = PlainWood(elders)
        for one, other in pairs:
            way = plain.upward(one)
            others = plain.upward(other)
            both = sorted(set(way) & set(others))
            self.assertEqual(wood.nearest(one, other), both[-1] if both else None)
            told = wood.is_beneath(one, other)
            self.assertIs(told, one != other and other in way)
            between = wood.opening(other) < wood.opening(one) < wood.closing(other)
            self.assertIs(told, between)

    def test_all_pairs_of_small_woods(self):
        for elders in small_woods():
            knots = range(len(elders))
            self.check_two(elders, [(one, other) for one in knots for other in knots])

    def test_pairs_of_large_woods(self):
        for elders in [chain(300), all_tops(300), comb(300), mixed_wood(300, 4), mixed_wood(300, 8, 30)]:
            knots = range(0, 300, 7)
            self.check_two(elders, [(one, other) for one in knots for other in knots])
        for elders in [chain(4000), all_tops(4000), mixed_wood(4000), mixed_wood(4000, 6, 35), comb(4000)]:
            knots = list(range(5, 4000, 331)) + [0, 1, 2, 3998, 3999]
            self.check_two(elders, [(one, other) for one in knots for other in knots])

    def test_refused(self):
        for elders in ([], [-1], [-1, 0, 0, -1]):
            wood = Opened(elders)
            for k in no_knots(len(elders)):
                for other in list(range(len(elders))) + [k]:
                    for ask in (wood.nearest, wood.is_beneath):
                        with self.assertRaises(NoKnot):
                            ask(k, other)
                        with self.assertRaises(NoKnot):
                            ask(other, k)


class TestTops(unittest.TestCase):
    def test_tops(self):
        for elders in small_woods() + large_woods():
            wood = Opened(elders)
            tops = PlainWood(elders).tops
            self.assertEqual(wood.many_tops(), len(tops))
            self.assertEqual([wood.top(i) for i in range(len(tops))], tops)
            for beyond in (len(tops), len(tops) + 1, 10 ** 5000):
                self.assertIsNone(wood.top(beyond))

    def test_refused(self):
        for elders in ([], [-1], [-1, 0, 0, -1]):
            for i in NO_NUMBERS:
                with self.assertRaises(NoPlace):
                    Opened(elders).top(i)


if __name__ == "__main__":
    unittest.main()
