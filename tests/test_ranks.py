import unittest

from tests.kinds import NO_WOODS
from tests.plain import all_balanced, all_tops, brush, chain, comb, mixed_wood, plain_elders
from tests.samples import NO_WHOLE_NUMBERS
from tightwood.errors import NoBits, NoNumber, NoWood, TooLarge
from tightwood.ranks import next_wood, number_of, packed, unpacked, wood_of
from tightwood.tables import many_woods
from tightwood.woods import row_of

TOO_LARGE = [chain(201), all_tops(201), mixed_wood(201), chain(4000), all_tops(4000)]
OF_200 = [chain(200), all_tops(200), brush(200), comb(200), mixed_wood(200), mixed_wood(200, 8), mixed_wood(200, 5, 60)]


def woods_in_order(n):
    return [plain_elders(row) for row in sorted(all_balanced(n))]


class RefusedCase(unittest.TestCase):
    def check_refused(self, ask):
        for thing, place in NO_WOODS + [(chain(300) + [300], 300), ([-1] * 250 + [7], 250), ([-1] * 201 + ["0"], 201)]:
            with self.assertRaises(NoWood) as caught:
                ask(thing)
            self.assertEqual(caught.exception.place, place)
        for elders in TOO_LARGE:
            with self.assertRaises(TooLarge):
                ask(elders)

    def check_is_apart(self, ask):
        for elders in ([], [-1, 0, -1], mixed_wood(100)):
            handed = list(elders)
            ask(handed)
            self.assertEqual(handed, elders)


class TestNumbers(RefusedCase):
    def test_by_hand(self):
        self.assertEqual(number_of([]), 0)
        self.assertEqual(number_of([-1]), 0)
        # 101010, 101100, 110010, 110100, 111000
        woods = [[-1, -1, -1], [-1, -1, 1], [-1, 0, -1], [-1, 0, 0], [-1, 0, 1]]
        self.assertEqual([number_of(elders) for elders in woods], [0, 1, 2, 3, 4])
        self.assertEqual([wood_of(3, number) for number in range(5)], woods)

    def test_all_woods_in_the_order_of_their_rows(self):
        for n in range(7):
            woods = woods_in_order(n)
            self.assertEqual([number_of(elders) for elders in woods], list(range(len(woods))))
            self.assertEqual([wood_of(n, number) for number in range(len(woods))], woods)

    def test_there_and_back_with_200_knots(self):
        many = many_woods(200)
        for elders in OF_200:
            number = number_of(elders)
            self.assertTrue(0 <= number < many)
            self.assertEqual(wood_of(200, number), elders)
        for number in (0, 1, 2, 10 ** 30, many // 3, many // 2, many - 2, many - 1):
            elders = wood_of(200, number)
            self.assertEqual(len(elders), 200)
            self.assertEqual(number_of(elders), number)
        self.assertEqual(number_of(all_tops(200)), 0)
        self.assertEqual(number_of(chain(200)), many - 1)

    def test_numbers_rise_as_rows_do(self):
        woods = sorted(OF_200 + [wood_of(200, 10 ** power) for power in range(0, 116, 5)], key=row_of)
        numbers = [number_of(elders) for elders in woods]
        self.assertEqual(numbers, sorted(numbers))

    def test_number_of_refused(self):
        self.check_refused(number_of)

    def test_no_number(self):
        for n in (0, 1, 2, 3, 6, 200):
            many = many_woods(n)
            for number in NO_WHOLE_NUMBERS + [-1, -2, many, many + 1, 2 * many, 10 ** 5000, -(10 ** 5000)]:
                with self.assertRaises(NoNumber):
                    wood_of(n, number)

    def test_is_apart(self):
        self.check_is_apart(number_of)
        told = wood_of(4, 3)
        told.clear()
        self.assertEqual(len(wood_of(4, 3)), 4)


class TestPacked(RefusedCase):
    def test_by_hand(self):
        self.assertEqual((packed([]), packed([-1])), ("", ""))
        self.assertEqual([packed([-1, -1]), packed([-1, 0])], ["0", "1"])
        self.assertEqual([packed(wood_of(3, number)) for number in range(5)], ["000", "001", "010", "011", "100"])
        self.assertEqual((unpacked(0, ""), unpacked(1, "")), ([], [-1]))
        self.assertEqual(unpacked(3, "100"), [-1, 0, 1])

    def test_there_and_back(self):
        for n in range(7):
            texts = [packed(elders) for elders in woods_in_order(n)]
            self.assertEqual([unpacked(n, text) for text in texts], woods_in_order(n))
            self.assertEqual([int("0" + text, 2) for text in texts], list(range(len(texts))))
            size = len(texts[0])
            self.assertEqual({len(text) for text in texts}, {size})
            # As many as are needed, and no more.
            self.assertTrue(len(texts) <= 2 ** size and (size == 0 or len(texts) > 2 ** (size - 1)))
        for elders in OF_200 + [mixed_wood(many) for many in range(10, 200, 31)]:
            text = packed(elders)
            self.assertEqual(unpacked(len(elders), text), elders)
            self.assertEqual(int(text, 2), number_of(elders))
            many = many_woods(len(elders))
            self.assertTrue(2 ** (len(text) - 1) < many <= 2 ** len(text))

    def test_packed_refused(self):
        self.check_refused(packed)

    def test_no_bits(self):
        for n in (0, 1, 2, 3, 4, 6, 50, 200):
            right = packed(all_tops(n))
            wrong = [right + "0", "0" + right, right + "1", " " + right, right + "\n", right + "\x00"]
            if right:
                wrong += [right[1:], "", "2" + right[1:], right[:-1] + "-", "+" + right[1:], " " + right[1:]]
                wrong += ["a" * len(right), right[:-1] + "\n", right[:-1] + "_"]
            if many_woods(n) < 2 ** len(right):
                beyond = bin(many_woods(n))[2:]
                self.assertEqual(len(beyond), len(right))
                wrong += [beyond, "1" * len(right)]
            if len(right) > 2:
                wrong += [right[:1] + "_" + right[2:], "0b" + right[2:]]
            for text in wrong:
                with self.assertRaises(NoBits):
                    unpacked(n, text)
            for thing in [None, 0, 1, True, [], list(right), tuple(right), right.encode(), {}, 1.0, object(),
                          10 ** 5000]:
                with self.assertRaises(NoBits):
                    unpacked(n, thing)

    def test_is_apart(self):
        self.check_is_apart(packed)


class TestNext(RefusedCase):
    def test_one_behind_the_other(self):
        for n in range(7):
            elders = all_tops(n)
            met = []
            while elders is not None:
                met.append(elders)
                elders = next_wood(elders)
            self.assertEqual(met, woods_in_order(n))

    def test_the_number_rises_by_one(self):
        for elders in OF_200[1:] + [mixed_wood(many) for many in range(10, 200, 31)] + [wood_of(200, 10 ** 60)]:
            self.assertEqual(number_of(next_wood(elders)), number_of(elders) + 1)

    def test_none_behind_the_last(self):
        for n in (0, 1, 2, 3, 30, 199, 200):
            self.assertIsNone(next_wood(chain(n)))
            if n > 1:
                self.assertEqual(next_wood(wood_of(n, many_woods(n) - 2)), chain(n))

    def test_refused(self):
        self.check_refused(next_wood)

    def test_is_apart(self):
        self.check_is_apart(next_wood)


if __name__ == "__main__":
    unittest.main()
