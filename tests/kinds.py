"""What holds for every kind of a wood: each question of each knot, held against the plain wood."""

import unittest

from tests.plain import PlainWood, large_woods, small_woods
from tests.samples import NO_NUMBERS, NO_WHOLE_NUMBERS, no_knots
from tightwood.errors import NoKnot, NoPlace, NoWood
from tightwood.woods import Wood

ASKED = ("elder", "first", "last", "right", "left", "many", "beneath", "depth")
# Each is no wood, with the place at which it fails.
NO_WOODS = [
    ([0], 0), ([1], 0), ([-2], 0), ([-(10 ** 5000)], 0), ([10 ** 5000], 0), ([True], 0), ([False], 0), ([None], 0),
    (["-1"], 0), ([[-1]], 0), ([(-1,)], 0), ([{}], 0), ([-1.0], 0), ([0, -1], 0), ([None, None], 0),
    ([-1, 1], 1), ([-1, 2], 1), ([-1, -2], 1), ([-1, True], 1), ([-1, False], 1), ([-1, None], 1), ([-1, "0"], 1),
    ([-1, [0]], 1), ([-1, 0.0], 1), ([-1, 10 ** 5000], 1),
    ([-1, -1, 0], 2), ([-1, 0, 2], 2), ([-1, 0, 0, 1], 3), ([-1, 0, 1, 0, 2], 4), ([-1, 0, 1, 0, 1], 4),
    ([-1, 0, -1, 0], 3), ([-1, 0, -1, 1], 3), ([-1, 0, -1, 0, 9, None], 3),
    ([-1] * 4001, 4000), (list(range(-1, 4000)), 4000), ([-1] * 4000 + [None], 4000), ([-1] * 5000, 4000),
    ([-1] * 3999 + [0], 3999), ([-1] * 3999 + [0, 0, 0], 3999), ([-1] * 4000 + [0], 4000),
    ((), 0), ((-1,), 0), (None, 0), (0, 0), (-1, 0), (True, 0), ("", 0), ("10", 0), ({}, 0), ({0: -1}, 0), (set(), 0),
    (b"", 0), (1.0, 0), (object(), 0), (10 ** 5000, 0),
]


class KindCase(unittest.TestCase):
    """The base of the tests of each kind: it has no tests of its own."""

    def check_answers(self, wood, elders, order, step=1):
        """The order tells for each number of the wood's own the number by opening."""
        plain = PlainWood(elders)
        own = {k: number for number, k in enumerate(order)}
        own[None] = None
        self.assertEqual(wood.many_knots(), len(elders))
        self.assertEqual(wood.elders(), elders)
        for number in range(0, len(elders), step):
            k = order[number]
            self.assertEqual(wood.elder(number), own[plain.elder(k)])
            self.assertEqual(wood.first(number), own[plain.first(k)])
            self.assertEqual(wood.last(number), own[plain.last(k)])
            self.assertEqual(wood.right(number), own[plain.right(k)])
            self.assertEqual(wood.left(number), own[plain.left(k)])
            self.assertEqual(wood.many(number), plain.many(k))
            self.assertEqual(wood.beneath(number), plain.beneath[k])
            self.assertEqual(wood.depth(number), plain.depths[k])
            self.check_children(wood, number, [own[child] for child in plain.children[k]])

    def check_children(self, wood, number, children):
        told = [wood.nth(number, i) for i in range(len(children))]
        self.assertEqual(told, children)
        for beyond in (len(children), len(children) + 1, len(children) + 4000, 10 ** 5000):
            self.assertIsNone(wood.nth(number, beyond))

    def check_kind(self, kind, order_of):
        for elders in small_woods():
            self.check_answers(kind(elders), elders, order_of(PlainWood(elders)))
        for elders in large_woods():
            self.check_answers(kind(elders), elders, order_of(PlainWood(elders)))

    def check_no_woods(self, kind):
        for thing, place in NO_WOODS:
            with self.assertRaises(NoWood) as caught:
                kind(thing)
            self.assertEqual(caught.exception.place, place)

    def check_no_knots(self, kind, more=()):
        """The further questions are named in more."""
        for elders in ([], [-1], [-1, 0, 0, -1], list(range(-1, 300))):
            wood = kind(elders)
            for k in no_knots(len(elders)):
                for name in ASKED + tuple(more):
                    with self.assertRaises(NoKnot):
                        getattr(wood, name)(k)
                for i in (0, 1, -1, None, True, "0"):
                    with self.assertRaises(NoKnot):
                        wood.nth(k, i)
            self.assertEqual(wood.elders(), elders)

    def check_no_numbers(self, kind):
        wood = kind([-1, 0, 0, -1])
        for i in NO_NUMBERS:
            for k in range(4):
                with self.assertRaises(NoPlace):
                    wood.nth(k, i)

    def check_is_apart(self, kind):
        """Nothing that is handed in or told is tied to the wood."""
        elders = [-1, 0, 1, 0, -1]
        wood = kind(elders)
        row = wood.row()
        self.assertIsInstance(wood, Wood)
        elders[1] = -1
        elders.append(77)
        told = wood.elders()
        told[0] = 9
        told.clear()
        self.assertEqual(wood.elders(), [-1, 0, 1, 0, -1])
        self.assertIsNot(wood.elders(), wood.elders())
        for k in NO_WHOLE_NUMBERS:
            with self.assertRaises(NoKnot):
                wood.elder(k)
        self.assertEqual((wood.row(), wood.many_knots()), (row, 5))
        handed = [-1, 0, 1, 0, -1]
        kind(handed)
        self.assertEqual(handed, [-1, 0, 1, 0, -1])
