import unittest

from tests.plain import PlainWood, all_tops, chain, comb, mixed_wood, small_woods, states
from tests.samples import FAR_OUT, NO_WHOLE_NUMBERS, no_knots
from tightwood.errors import NoFit, NoKnot, NoName
from tightwood.named import Named, is_name
from tightwood.opened import Opened

NO_NAMES = NO_WHOLE_NUMBERS + FAR_OUT + [
    0, 1, "abcdefghi", "a" * 100, "A", "aB", "Abc", "a b", " a", "a ", "a-b", "a_b", "a1", "1a", "a\n", "\n", "`", "{", "@",
    "[", "\u00e4", "a\u00e9", "\u03b1", ["a"], ("a",), {"a": "a"}, b"a",
]


def mixed_names(many, stock, seed=1):
    chance = states(seed)
    return [stock[next(chance) % len(stock)] for k in range(many)]


class TestIsName(unittest.TestCase):
    def test_names(self):
        for name in list("abcdefghijklmnopqrstuvwxyz") + ["zz", "abcdefgh", "zzzzzzzz", "wood"]:
            self.assertIs(is_name(name), True)

    def test_what_is_none(self):
        for thing in NO_NAMES:
            self.assertIs(is_name(thing), False)

    def test_each_sign(self):
        for number in range(128):
            sign = chr(number)
            for text in (sign, "a" + sign, sign + "a", "abc" + sign + "xyz"):
                self.assertIs(is_name(text), "a" <= sign <= "z")


class TestMade(unittest.TestCase):
    def assert_no_name(self, wood, names, place):
        with self.assertRaises(NoName) as caught:
            Named(wood, names)
        self.assertEqual(caught.exception.place, place)
        self.assertIs(type(caught.exception), NoName)

    def test_no_name_with_its_place(self):
        wood = Opened([-1, 0, 0, -1])
        for thing in NO_NAMES:
            for place in range(4):
                names = ["a", "b", "a", "c"]
                names[place] = thing
                self.assert_no_name(wood, names, place)
        self.assert_no_name(wood, ["a", "", "a", None], 1)

    def test_no_name_ahead_of_no_fit(self):
        wood = Opened([-1, 0])
        self.assert_no_name(wood, ["a", "b", "c", "D"], 3)
        self.assert_no_name(wood, [""], 0)
        self.assert_no_name(Opened([]), [None], 0)

    def test_no_fit(self):
        for elders in ([], [-1], [-1, 0, 0, -1]):
            for many in range(7):
                names = ["a"] * many
                if many != len(elders):
                    with self.assertRaises(NoFit):
                        Named(Opened(elders), names)
                self.assertEqual(names, ["a"] * many)

    def test_the_handed_list_is_apart(self):
        names = ["b", "a", "b"]
        named = Named(Opened([-1, 0, 0]), names)
        self.assertEqual(names, ["b", "a", "b"])
        names[0] = "z"
        names.clear()
        self.assertEqual([named.name_of(k) for k in range(3)], ["b", "a", "b"])
        self.assertEqual(named.order(), [1, 0, 2])

    def test_told_lists_are_new(self):
        named = Named(Opened([-1, 0, 0]), ["b", "a", "b"])
        for ask, answer in [
            (named.order, [1, 0, 2]),
            (named.stretches, [("a", 0, 1), ("b", 1, 3)]),
            (lambda: named.all_of("b"), [0, 2]),
            (lambda: named.all_beneath(0, "b"), [0, 2]),
            (lambda: named.all_of("c"), []),
        ]:
            told = ask()
            self.assertEqual(told, answer)
            told.append(5)
            told[0] = 6
            self.assertEqual(ask(), answer)
        self.assertTrue(all(isinstance(one, tuple) for one in named.stretches()))


class TestAsked(unittest.TestCase):
    def check_order(self, named, names):
        order = sorted(range(len(names)), key=lambda k: (names[k], k))
        self.assertEqual(named.order(), order)
        stretches = []
        for name in sorted(set(names)):
            begin = len([one for one in names if one < name])
            stretches.append((name, begin, begin + names.count(name)))
        self.assertEqual(named.stretches(), stretches)
        self.assertEqual([named.name_of(k) for k in range(len(names))], names)

    def check_name(self, named, plain, names, name, knots):
        places = [k for k in range(len(names)) if names[k] == name]
        self.assertEqual(named.all_of(name), places)
        for k in knots:
            within = [one for one in places if k <= one <= k + plain.beneath[k]]
            self.assertEqual(named.all_beneath(k, name), within)
            self.assertEqual(named.many_beneath(k, name), len(within))
            later = [one for one in places if one >= k]
            self.assertEqual(named.next_of(k, name), later[0] if later else None)
            above = [one for one in plain.upward(k)[1:] if names[one] == name]
            self.assertEqual(named.elder_of(k, name), above[0] if above else None)

    def check_named(self, elders, names, asked, knots):
        named = Named(Opened(elders), names)
        self.check_order(named, names)
        for name in asked:
            self.check_name(named, PlainWood(elders), names, name, knots)

    def test_by_hand(self):
        named = Named(Opened([-1, 0, 1, 1, 0, -1]), ["b", "a", "b", "a", "b", "c"])
        self.assertEqual(named.order(), [1, 3, 0, 2, 4, 5])
        self.assertEqual(named.stretches(), [("a", 0, 2), ("b", 2, 5), ("c", 5, 6)])
        self.assertEqual(named.name_of(3), "a")
        self.assertEqual(named.all_of("b"), [0, 2, 4])
        self.assertEqual(named.all_of("d"), [])
        self.assertEqual(named.many_beneath(1, "b"), 1)
        self.assertEqual(named.all_beneath(1, "a"), [1, 3])
        self.assertEqual([named.next_of(k, "a") for k in range(6)], [1, 1, 3, 3, None, None])
        self.assertEqual([named.elder_of(k, "a") for k in range(6)], [None, None, 1, 1, None, None])
        self.assertEqual([named.elder_of(k, "b") for k in range(6)], [None, 0, 0, 0, 0, None])

    def test_the_wood_without_knots(self):
        named = Named(Opened([]), [])
        self.assertEqual((named.order(), named.stretches(), named.all_of("a")), ([], [], []))

    def test_all_names_on_small_woods(self):
        for elders in small_woods(5):
            for number in range(2 ** len(elders)):
                names = ["ab"[number >> k & 1] for k in range(len(elders))]
                self.check_named(elders, names, ("a", "b", "c"), range(len(elders)))

    def test_many_names_on_small_woods(self):
        for seed, elders in enumerate(small_woods(6)):
            names = mixed_names(len(elders), ["c", "ca", "b", "zzzzzzzz"], seed)
            self.check_named(elders, names, ("c", "ca", "b", "zzzzzzzz", "a", "caa"), range(len(elders)))

    def test_larger_woods(self):
        stock = ["a", "aa", "ab", "b", "ba", "rare"] + ["a", "b"] * 8
        for elders in [chain(300), all_tops(300), comb(300), mixed_wood(500, 3), mixed_wood(400, 5, 60)]:
            names = mixed_names(len(elders), stock, 7)
            self.check_named(elders, names, ("a", "aa", "rare", "b", "c"), range(0, len(elders), 3))

    def test_names_on_leaves_beside_the_way_up(self):
        # Each leaf of the comb bears the name, and of the chain but the knot 0.
        names = ["a" if k % 2 == 1 or k == 0 else "b" for k in range(301)]
        self.check_named(comb(301), names, ("a", "b"), range(301))

    def test_each_knot_with_a_name_of_its_own(self):
        letters = "abcdefghijklmnopqrstuvwxyz"
        names = [letters[k * 7 % 26] + letters[k // 26] for k in range(400)]
        self.assertEqual(len(set(names)), 400)
        self.check_named(mixed_wood(400, 8), names, names[::40], range(0, 400, 9))

    def test_the_largest_woods(self):
        stock = ["a"] * 30 + ["b"] * 10 + ["rare"]
        for elders in [chain(4000), all_tops(4000), mixed_wood(4000)]:
            names = mixed_names(4000, stock, 11)
            knots = list(range(3, 4000, 397)) + [0, 3999]
            self.check_named(elders, names, ("a", "rare", "c"), knots)
            self.check_named(elders, ["a"] * 4000, ("a", "b"), knots[::3])


class TestRefused(unittest.TestCase):
    def asked_by_both(self, named):
        return (named.many_beneath, named.all_beneath, named.next_of, named.elder_of)

    def test_what_is_no_knot_ahead_of_what_is_no_name(self):
        for elders in ([], [-1], [-1, 0, 0, -1]):
            named = Named(Opened(elders), ["a"] * len(elders))
            for k in no_knots(len(elders)):
                with self.assertRaises(NoKnot):
                    named.name_of(k)
                for ask in self.asked_by_both(named):
                    for name in ("a", "b", "", None, 0, "A", []):
                        with self.assertRaises(NoKnot):
                            ask(k, name)

    def test_what_is_no_name(self):
        named = Named(Opened([-1, 0, 0, -1]), ["a", "b", "a", "c"])
        for name in NO_NAMES:
            with self.assertRaises(NoName) as caught:
                named.all_of(name)
            self.assertIsNone(caught.exception.place)
            for ask in self.asked_by_both(named):
                for k in range(4):
                    with self.assertRaises(NoName) as caught:
                        ask(k, name)
                    self.assertIsNone(caught.exception.place)
        self.assertEqual(named.stretches(), [("a", 0, 2), ("b", 2, 3), ("c", 3, 4)])


if __name__ == "__main__":
    unittest.main()
