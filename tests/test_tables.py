import itertools
import unittest

from tests.plain import all_balanced, plain_heights
from tightwood.tables import many_shallow, many_woods, table_of

# How many woods of 0 to 12 knots there are.
MANY = [1, 1, 2, 5, 14, 42, 132, 429, 1430, 4862, 16796, 58786, 208012]


def many_texts(left, still_open):
    """How many texts of so many signs lead from so many open knots to none, tried one by one."""
    many = 0
    for signs in itertools.product("01", repeat=left):
        heights = [still_open + height for height in plain_heights(signs)]
        many += 1 if min(heights) >= 0 and heights[-1] == 0 else 0
    return many


class TestTable(unittest.TestCase):
    def test_by_hand(self):
        self.assertEqual(table_of(0), [[1]])
        self.assertEqual(table_of(1), [[1], [0, 1], [1, 0, 1]])
        self.assertEqual(table_of(2), [[1], [0, 1], [1, 0, 1], [0, 2, 0, 1], [2, 0, 3, 0, 1]])
        self.assertEqual(table_of(3)[5:], [[0, 5, 0, 4, 0, 1], [5, 0, 9, 0, 5, 0, 1]])

    def test_held_against_all_texts(self):
        for left, row in enumerate(table_of(5)):
            self.assertEqual(row, [many_texts(left, still_open) for still_open in range(left + 1)])

    def test_its_own_rule(self):
        for n in (0, 1, 2, 3, 17, 100, 199, 200):
            table = table_of(n)
            self.assertEqual(len(table), 2 * n + 1)
            self.assertEqual(table[0], [1])
            for left in range(1, 2 * n + 1):
                ahead = table[left - 1]
                self.assertEqual(len(table[left]), left + 1)
                for still_open, many in enumerate(table[left]):
                    more = ahead[still_open + 1] if still_open + 1 < left else 0
                    less = ahead[still_open - 1] if still_open > 0 else 0
                    self.assertEqual(many, more + less)

    def test_a_table_begins_as_each_smaller_one(self):
        table = table_of(30)
        for n in range(30):
            self.assertEqual(table_of(n), table[:2 * n + 1])

    def test_told_lists_are_new_ones(self):
        told = table_of(3)
        kept = [list(row) for row in told]
        for row in told:
            row.append(None)
            row[0] = 7
        told.clear()
        self.assertEqual(table_of(3), kept)
        self.assertEqual(many_woods(3), 5)
        again = table_of(2)
        self.assertEqual(len({id(row) for row in again}), 5)


class TestMany(unittest.TestCase):
    def test_by_hand(self):
        self.assertEqual([many_woods(n) for n in range(13)], MANY)

    def test_all_woods_listed(self):
        for n in range(9):
            self.assertEqual(many_woods(n), len(all_balanced(n)))

    def test_the_last_list_s_first_number(self):
        for n in list(range(40)) + [99, 150, 199, 200]:
            self.assertEqual(many_woods(n), table_of(n)[-1][0])
        self.assertEqual(len(str(many_woods(200))), 117)


class TestShallow(unittest.TestCase):
    def test_all_woods_listed(self):
        for n in range(9):
            # A knot that opens at a height has just that depth.
            deepest = [max(plain_heights(row)) - 1 for row in all_balanced(n)]
            for told in list(range(n + 3)) + [100, 4000, 10 ** 5000]:
                self.assertEqual(many_shallow(n, told), len([depth for depth in deepest if depth <= told]))

    def test_edges(self):
        for n in (0, 1, 2, 50, 199, 200):
            self.assertEqual(many_shallow(n, 0), 1)
            # Of n knots a depth of n - 1 has the chain alone.
            for beyond in (n, n + 1, 2 * n + 1, 1000, 10 ** 5000):
                self.assertEqual(many_shallow(n, beyond), many_woods(n))
            if n > 1:
                self.assertEqual(many_shallow(n, n - 1), many_woods(n))
                self.assertEqual(many_shallow(n, n - 2), many_woods(n) - 1)

    def test_of_depth_1_and_2(self):
        # Of depth 1 at most: each knot but the first is a top, or a child of the last top.
        for n in (1, 2, 5, 30, 200):
            self.assertEqual(many_shallow(n, 1), 2 ** (n - 1))
        self.assertEqual([many_shallow(n, 2) for n in range(8)], [1, 1, 2, 5, 13, 34, 89, 233])


if __name__ == "__main__":
    unittest.main()
