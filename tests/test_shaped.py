import unittest

from tests.kinds import NO_WOODS, KindCase
from tests.plain import (PlainWood, all_tops, brush, chain, comb, graft_knot, large_woods, mixed_wood, plain_cut,
                         plain_graft, small_woods, states)
from tests.samples import NO_NUMBERS, no_knots
from tests.test_pieces import plain_sums
from tightwood.errors import NoDeed, NoGraft, NoKnot, NoWood, TooLarge
from tightwood.opened import Opened
from tightwood.shaped import Shaped
from tightwood.woods import row_of


def by_opening(plain):
    return list(range(plain.many_knots))


class PiecesCase(KindCase):
    def check_pieces(self, wood, elders):
        pieces = wood.pieces()
        self.assertEqual(wood.elders(), elders)
        self.assertEqual("".join(pieces), row_of(elders))
        self.assertEqual(wood.row(), row_of(elders))
        self.assertEqual(wood.many_knots(), len(elders))
        for piece in pieces:
            self.assertIs(type(piece), str)
            self.assertTrue(1 <= len(piece) <= 128)
        for one, other in zip(pieces, pieces[1:]):
            self.assertGreater(len(one) + len(other), 64)
        self.assertEqual(wood.sums(), [plain_sums(piece) for piece in pieces])

    def check_left(self, before, after, low, high, put_in):
        """The deed touched the row from low to ahead of high, and put in so many signs."""
        ahead = []
        behind = []
        end = 0
        for piece in before:
            end += len(piece)
            if end <= low:
                ahead.append(piece)
            if end - len(piece) >= high:
                behind.append(piece)
        first = ahead[:-2]
        last = behind[2:]
        self.assertEqual(after[:len(first)], first)
        self.assertEqual(after[len(after) - len(last):], last)
        others = len(after) - len(first) - len(last)
        self.assertTrue(0 <= others <= 8 + put_in // 32, others)

    def do_cut(self, wood, k):
        elders = wood.elders()
        pieces = wood.pieces()
        plain = PlainWood(elders)
        taken, left = plain_cut(elders, k)
        self.assertEqual(wood.cut(k), taken)
        self.check_pieces(wood, left)
        low = 2 * k - plain.depths[k]
        self.check_left(pieces, wood.pieces(), low, low + 2 * len(taken), 0)

    def do_graft(self, wood, k, place, other):
        elders = wood.elders()
        pieces = wood.pieces()
        handed = list(other)
        self.assertIsNone(wood.graft(k, place, handed))
        self.assertEqual(handed, other)
        self.check_pieces(wood, plain_graft(elders, k, place, other))
        # Ahead of the touched place stand the openings of all knots ahead, and the closings of those not above it.
        depth = 0 if k is None else PlainWood(elders).depths[k] + 1
        touched = 2 * graft_knot(elders, k, place) - depth
        self.check_left(pieces, wood.pieces(), touched, touched, 2 * len(other))

    def take_all_back(self, wood, earlier):
        """Earlier are the elders and pieces ahead of each deed, the first one first."""
        for elders, pieces in reversed(earlier):
            self.assertIsNone(wood.take_back())
            self.assertEqual(wood.pieces(), pieces)
            self.check_pieces(wood, elders)
        with self.assertRaises(NoDeed):
            wood.take_back()


class TestShaped(PiecesCase):
    def test_each_question_of_each_knot(self):
        self.check_kind(Shaped, by_opening)

    def test_by_hand(self):
        wood = Shaped([-1, 0, 1, 0, -1])
        self.assertEqual((wood.row(), wood.pieces()), ("1110010010", ["1110010010"]))
        self.assertEqual(wood.sums(), [(5, 0, 0)])
        self.assertEqual(wood.cut(1), [-1, 0])
        self.assertEqual((wood.elders(), wood.pieces()), ([-1, 0, -1], ["110010"]))
        wood.graft(0, 1, [-1, 0, -1])
        self.assertEqual((wood.elders(), wood.row()), ([-1, 0, 0, 2, 0, -1], "110110010010"))
        wood.graft(None, 0, [-1])
        self.assertEqual(wood.elders(), [-1, -1, 1, 1, 3, 1, -1])
        self.assertEqual([wood.elder(k) for k in range(7)], [None, None, 1, 1, 3, 1, None])
        self.assertEqual([wood.many(k) for k in range(7)], [0, 3, 0, 1, 0, 0, 0])
        wood.take_back()
        wood.take_back()
        self.assertEqual(wood.elders(), [-1, 0, -1])
        wood.take_back()
        self.assertEqual(wood.elders(), [-1, 0, 1, 0, -1])

    def test_no_woods(self):
        self.check_no_woods(Shaped)

    def test_no_knots(self):
        self.check_no_knots(Shaped, ("cut",))

    def test_no_numbers(self):
        self.check_no_numbers(Shaped)

    def test_is_apart(self):
        self.check_is_apart(Shaped)

    def test_as_the_kind_by_openings_tells_it(self):
        wood = Shaped(mixed_wood(300, 2))
        for often in range(4):
            wood.cut(2 * wood.many_knots() // 3)
            opened = Opened(wood.elders())
            self.assertEqual(wood.row(), opened.row())
            for knot in range(wood.many_knots()):
                for name in ("elder", "first", "last", "right", "left", "many", "beneath", "depth"):
                    self.assertEqual(getattr(wood, name)(knot), getattr(opened, name)(knot))
                told = [wood.nth(knot, i) for i in range(5)]
                self.assertEqual(told, [opened.nth(knot, i) for i in range(5)])


class TestPieces(PiecesCase):
    def test_pieces_when_made(self):
        for elders in small_woods() + large_woods():
            self.check_pieces(Shaped(elders), elders)
        for many in list(range(28, 38)) + list(range(60, 70)) + list(range(94, 100)) + list(range(124, 132)):
            for elders in (chain(many), all_tops(many), mixed_wood(many, many)):
                self.check_pieces(Shaped(elders), elders)

    def test_the_wood_without_knots_has_none(self):
        wood = Shaped([])
        self.assertEqual((wood.pieces(), wood.sums(), wood.row(), wood.elders()), ([], [], "", []))
        wood = Shaped([-1, 0])
        wood.cut(0)
        self.assertEqual((wood.pieces(), wood.sums(), wood.row(), wood.elders()), ([], [], "", []))

    def test_told_lists_are_the_asker_s_own(self):
        wood = Shaped(mixed_wood(200))
        pieces = wood.pieces()
        sums = wood.sums()
        elders = wood.elders()
        kept = (list(pieces), list(sums), list(elders))
        taken = wood.cut(0)
        self.assertEqual((pieces, sums, elders), kept)
        for told in (taken, wood.pieces(), wood.sums(), wood.elders(), pieces, sums, elders):
            told.append(None)
            told.reverse()
        wood.take_back()
        self.assertEqual((wood.pieces(), wood.sums(), wood.elders()), kept)
        self.assertIsNot(wood.pieces(), wood.pieces())
        self.assertIsNot(wood.sums(), wood.sums())
        for one in wood.sums():
            self.assertIs(type(one), tuple)


class TestCut(PiecesCase):
    def test_every_knot_of_small_woods(self):
        for elders in small_woods():
            for k in range(len(elders)):
                wood = Shaped(elders)
                self.do_cut(wood, k)
                self.take_all_back(wood, [(elders, Shaped(elders).pieces())])

    def test_knots_of_large_woods(self):
        for elders in large_woods():
            for k in sorted({0, 1, len(elders) // 3, len(elders) // 2, len(elders) - 2, len(elders) - 1}):
                wood = Shaped(elders)
                pieces = wood.pieces()
                self.do_cut(wood, k)
                self.check_answers(wood, wood.elders(), list(range(wood.many_knots())), 41)
                self.take_all_back(wood, [(elders, pieces)])

    def test_cut_one_behind_the_other_till_none_is_left(self):
        for elders in (chain(400), all_tops(400), brush(400), comb(401), mixed_wood(600, 9)):
            wood = Shaped(elders)
            earlier = []
            chance = states(5)
            while wood.many_knots() > 0:
                earlier.append((wood.elders(), wood.pieces()))
                # Mostly low ones: else a chain is gone at once.
                self.do_cut(wood, wood.many_knots() - 1 - min([next(chance) % wood.many_knots() for often in range(9)]))
            self.assertEqual(wood.pieces(), [])
            self.take_all_back(wood, earlier)


class TestGraft(PiecesCase):
    def test_every_place_of_small_woods(self):
        for elders in small_woods(4):
            plain = PlainWood(elders)
            for other in ([], [-1], [-1, -1], [-1, 0], [-1, 0, -1, 2, 2]):
                for k in [None] + list(range(len(elders))):
                    for place in range(len(plain.tops if k is None else plain.children[k]) + 1):
                        wood = Shaped(elders)
                        self.do_graft(wood, k, place, other)
                        self.check_answers(wood, wood.elders(), list(range(wood.many_knots())))
                        self.take_all_back(wood, [(elders, Shaped(elders).pieces())])

    def test_all_knots_without_elders_become_children_in_their_order(self):
        wood = Shaped([-1, 0, 0])
        wood.graft(0, 1, [-1, -1, 1, -1])
        self.assertEqual([wood.nth(0, i) for i in range(6)], [1, 2, 3, 5, 6, None])
        self.assertEqual(wood.elders(), [-1, 0, 0, 0, 3, 0, 0])

    def test_places_of_large_woods(self):
        for elders in (chain(700), all_tops(700), brush(700), mixed_wood(700, 3), comb(701)):
            plain = PlainWood(elders)
            for other in ([], [-1], chain(20), all_tops(300), mixed_wood(1000, 8)):
                for k in (None, 0, 1, 350, 699):
                    many = len(plain.tops if k is None else plain.children[k])
                    for place in sorted({0, many // 2, many}):
                        wood = Shaped(elders)
                        self.do_graft(wood, k, place, other)
                        self.check_answers(wood, wood.elders(), list(range(wood.many_knots())), 97)

    def test_a_wood_of_4000_is_not_too_large(self):
        for elders, other in ((chain(3999), [-1]), ([-1], chain(3999)), ([], mixed_wood(4000)), (all_tops(4000), []),
                              (mixed_wood(2000), all_tops(2000))):
            wood = Shaped(elders)
            self.do_graft(wood, None, 0, other)
            self.assertEqual(wood.many_knots(), 4000)
            wood.take_back()
            if elders:
                self.do_graft(wood, len(elders) - 1, 0, other)
                self.assertEqual(wood.many_knots(), 4000)

    def test_the_wood_itself(self):
        elders = [-1, 0, -1]
        wood = Shaped(elders)
        self.do_graft(wood, 1, 0, elders)
        self.assertEqual(wood.elders(), [-1, 0, 1, 2, 1, -1])


class TestRefused(PiecesCase):
    def check_refused(self, wood, error, deed, place=None):
        kept = (wood.elders(), wood.pieces(), wood.sums())
        with self.assertRaises(error) as caught:
            deed()
        if place is not None:
            self.assertEqual(caught.exception.place, place)
        self.assertEqual((wood.elders(), wood.pieces(), wood.sums()), kept)

    def check_all_refusals(self, elders):
        wood = Shaped(elders)
        for k in no_knots(len(elders)):
            self.check_refused(wood, NoKnot, lambda: wood.cut(k))
            if k is not None:
                for place in (0, 1, -1, None, True):
                    for other in ([], [-1], [0], None, [-1] * 4000, [-1] * 4001):
                        self.check_refused(wood, NoKnot, lambda: wood.graft(k, place, other))
        self.check_refused(wood, NoKnot, lambda: wood.cut(None))
        plain = PlainWood(elders)
        for k in [None] + list(range(len(elders))):
            many = len(plain.tops if k is None else plain.children[k])
            for place in NO_NUMBERS + [many + 1, many + 2, many + 4000, 10 ** 5000]:
                for other in ([], [-1], [0], None, [-1] * 4000):
                    self.check_refused(wood, NoGraft, lambda: wood.graft(k, place, other))
            for other, place in NO_WOODS:
                self.check_refused(wood, NoWood, lambda: wood.graft(k, many, other), place)
        # Nothing of all this is a deed.
        self.check_refused(wood, NoDeed, wood.take_back)

    def test_small_woods(self):
        for elders in ([], [-1], [-1, 0, 0, -1]):
            self.check_all_refusals(elders)

    def test_too_large(self):
        for elders, other in (([-1], all_tops(4000)), (chain(4000), [-1]), (mixed_wood(2000), mixed_wood(2001)),
                              (all_tops(3999), [-1, 0]), (chain(4000), chain(4000))):
            wood = Shaped(elders)
            self.check_refused(wood, TooLarge, lambda: wood.graft(None, 0, other))
            self.check_refused(wood, TooLarge, lambda: wood.graft(0, 0, other))
            self.check_refused(wood, NoKnot, lambda: wood.graft(len(elders), 0, other))
            self.check_refused(wood, NoGraft, lambda: wood.graft(0, -1, other))
            self.check_refused(wood, NoWood, lambda: wood.graft(0, 0, other + [-2]), min(len(other), 4000))
            self.check_refused(wood, NoDeed, wood.take_back)

    def test_a_refusal_leaves_the_deeds(self):
        wood = Shaped([-1, 0])
        wood.cut(1)
        self.check_refused(wood, NoKnot, lambda: wood.cut(1))
        self.check_refused(wood, NoGraft, lambda: wood.graft(0, 1, [-1]))
        self.check_refused(wood, NoWood, lambda: wood.graft(0, 0, [0]), 0)
        self.check_refused(wood, TooLarge, lambda: wood.graft(0, 0, [-1] * 4000))
        wood.take_back()
        self.assertEqual(wood.elders(), [-1, 0])
        self.check_refused(wood, NoDeed, wood.take_back)

    def test_no_deed(self):
        for elders in small_woods(3) + [chain(300)]:
            wood = Shaped(elders)
            self.check_refused(wood, NoDeed, wood.take_back)
            wood.graft(None, 0, [])
            wood.take_back()
            self.check_refused(wood, NoDeed, wood.take_back)


class TestManyDeeds(PiecesCase):
    def do_some_deed(self, wood, chance, others, most):
        many = wood.many_knots()
        kind = next(chance) % 5
        if many > 0 and (kind < 2 or many > most):
            # Of four knots the lowest one, so that no deed takes out nearly all.
            beneath = {next(chance) % many for often in range(4)}
            self.do_cut(wood, min(beneath, key=lambda k: PlainWood(wood.elders()).beneath[k]))
        else:
            k = next(chance) % many if many > 0 and kind < 4 else None
            plain = PlainWood(wood.elders())
            children = plain.tops if k is None else plain.children[k]
            self.do_graft(wood, k, next(chance) % (len(children) + 1), others[next(chance) % len(others)])

    def check_many(self, elders, others, deeds, most=3000):
        wood = Shaped(elders)
        chance = states(len(elders))
        earlier = []
        for number in range(deeds):
            earlier.append((wood.elders(), wood.pieces()))
            self.do_some_deed(wood, chance, others, most)
            if number % 20 == 0:
                self.check_answers(wood, wood.elders(), list(range(wood.many_knots())), 1 + wood.many_knots() // 60)
            if number % 7 == 6:
                # A deed that is taken back, and another one in its place.
                told = earlier.pop()
                wood.take_back()
                self.assertEqual((wood.elders(), wood.pieces()), told)
        self.take_all_back(wood, earlier)

    def test_small_woods(self):
        others = [[], [-1], [-1, 0], [-1, -1, 1]]
        for elders in small_woods(3):
            self.check_many(elders, others, 40, 50)

    def test_few_signs_at_a_time(self):
        others = [[-1], [-1, -1], [-1, 0], [-1, 0, 1, -1], mixed_wood(17, 3), chain(33)]
        for elders in ([], mixed_wood(300, 6), chain(1000), all_tops(1000)):
            self.check_many(elders, others, 250)

    def test_many_signs_at_a_time(self):
        others = [mixed_wood(500, 2), chain(100), all_tops(257), [-1], []]
        for elders in (mixed_wood(2500, 4), chain(2000), all_tops(2000)):
            self.check_many(elders, others, 60)


if __name__ == "__main__":
    unittest.main()
