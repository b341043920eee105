import itertools
import unittest

from tests.plain import states
from tests.samples import FAR_OUT, NO_WHOLE_NUMBERS
from tightwood.errors import NoOrder
from tightwood.orders import Shortcuts

STEPS = (1, 2, 3, 16, 64)


def mixed_order(size, seed=1):
    chance = states(seed)
    order = list(range(size))
    for place in range(size - 1, 0, -1):
        other = next(chance) % (place + 1)
        order[place], order[other] = order[other], order[place]
    return order


def order_of_rounds(rounds):
    order = [None] * sum(len(one) for one in rounds)
    for one in rounds:
        for place, onward in zip(one, one[1:] + one[:1]):
            order[place] = onward
    return order


def one_round(size, stride=1):
    """A round through all places; the stride has no factor in common with the size."""
    return order_of_rounds([[stride * count % size for count in range(size)]])


def round_of(order, place):
    places = [place]
    while order[places[-1]] != place:
        places.append(order[places[-1]])
    return places


def plain_shortcuts(order, step):
    told = []
    for least in range(len(order)):
        places = round_of(order, least)
        if min(places) == least and len(places) > step:
            marked = [count for count in range(len(places)) if count % step == 0]
            for count in marked:
                to = count - step if count > 0 else marked[-1]
                told.append((places[count], places[to]))
    return sorted(told)


def plain_way_back(order, place, shortcuts):
    way = [place]
    if any(one in shortcuts for one in round_of(order, place)):
        while way[-1] not in shortcuts:
            way.append(order[way[-1]])
        way.append(shortcuts[way[-1]])
    while order[way[-1]] != place:
        way.append(order[way[-1]])
    return way


def small_orders():
    return [list(order) for size in range(7) for order in itertools.permutations(range(size))]


def larger_orders():
    rounds = [one_round(size) for size in (15, 16, 17, 31, 32, 33, 63, 64, 65, 128, 129)]
    return rounds + [one_round(100, 37), list(range(99, -1, -1)), mixed_order(300), mixed_order(1000, 5)]


class TestMade(unittest.TestCase):
    def assert_barred(self, order, place):
        for step in (1, 16):
            with self.assertRaises(NoOrder) as caught:
                Shortcuts(order, step)
            self.assertEqual(caught.exception.place, place)
        self.assertIs(type(caught.exception), NoOrder)

    def test_orders(self):
        for size in (0, 1, 4000):
            for order in (list(range(size)), mixed_order(size), list(range(size))[::-1]):
                made = Shortcuts(order)
                self.assertEqual([made.there(place) for place in range(size)], order)

    def test_every_short_list_is_an_order_or_barred_at_the_first_place(self):
        for size in range(5):
            for order in itertools.product(range(-1, size + 1), repeat=size):
                barred = [place for place in range(size)
                          if not 0 <= order[place] < size or order[place] in order[:place]]
                if barred:
                    self.assert_barred(list(order), barred[0])
                else:
                    self.assertEqual([Shortcuts(list(order)).there(place) for place in range(size)], list(order))

    def test_what_is_no_whole_number_of_the_order(self):
        for thing in NO_WHOLE_NUMBERS + FAR_OUT + [5, 6]:
            for place in range(5):
                order = [0, 1, 2, 3, 4]
                order[place] = thing
                self.assert_barred(order, place)
        self.assert_barred([1], 0)
        self.assert_barred([True, False], 0)
        self.assert_barred([1, False], 1)

    def test_one_that_stands_ahead(self):
        self.assert_barred([0, 0], 1)
        self.assert_barred([2, 1, 2], 2)
        self.assert_barred([1, 1, 9], 1)
        self.assert_barred(list(range(3999)) + [0], 3999)
        self.assert_barred([3, 0, 3, 3, None], 2)

    def test_the_handed_list_is_apart(self):
        order = [2, 0, 1]
        made = Shortcuts(order, 1)
        order[0] = 0
        order.clear()
        self.assertEqual([made.there(place) for place in range(3)], [2, 0, 1])
        self.assertEqual([made.back(place) for place in range(3)], [1, 2, 0])
        wrong = [0, None]
        with self.assertRaises(NoOrder):
            Shortcuts(wrong)
        self.assertEqual(wrong, [0, None])


class TestThereAndBack(unittest.TestCase):
    def test_for_every_place(self):
        for order in small_orders() + larger_orders() + [mixed_order(4000), one_round(4000, 1237)]:
            for step in STEPS:
                made = Shortcuts(order, step)
                places = range(len(order))
                self.assertEqual([made.there(place) for place in places], order)
                self.assertEqual([order[made.back(place)] for place in places], list(places))
                self.assertEqual([made.back(order[place]) for place in places], list(places))


class TestShortcuts(unittest.TestCase):
    def test_by_hand(self):
        for order, step, shortcuts in [
            ([], 1, []),
            ([0], 1, []),
            ([1, 0], 1, [(0, 1), (1, 0)]),
            ([1, 0], 2, []),
            ([1, 2, 0], 1, [(0, 2), (1, 0), (2, 1)]),
            ([1, 2, 0], 2, [(0, 2), (2, 0)]),
            ([1, 2, 3, 0], 2, [(0, 2), (2, 0)]),
            ([1, 2, 3, 4, 0], 2, [(0, 4), (2, 0), (4, 2)]),
            ([1, 2, 3, 4, 0], 3, [(0, 3), (3, 0)]),
            ([1, 2, 3, 4, 0], 4, [(0, 4), (4, 0)]),
            ([1, 2, 3, 4, 0], 5, []),
            ([4, 0, 1, 2, 3], 2, [(0, 1), (1, 3), (3, 0)]),
            ([0, 2, 1, 4, 5, 3], 2, [(3, 5), (5, 3)]),
        ]:
            self.assertEqual(Shortcuts(order, step).shortcuts(), shortcuts)

    def test_rounds_of_fewer_as_many_and_more_places_than_the_step(self):
        for step in (1, 2, 16, 64):
            for size in (step - 1, step):
                self.assertEqual(Shortcuts(one_round(size) if size else [], step).shortcuts(), [])
            self.assertEqual(Shortcuts(one_round(step + 1), step).shortcuts(), [(0, step), (step, 0)])
        self.assertEqual(Shortcuts(one_round(33), 16).shortcuts(), [(0, 32), (16, 0), (32, 16)])
        self.assertEqual(Shortcuts(one_round(32), 16).shortcuts(), [(0, 16), (16, 0)])
        self.assertEqual(Shortcuts(one_round(130), 64).shortcuts(), [(0, 128), (64, 0), (128, 64)])

    def test_of_every_order(self):
        for order in small_orders() + larger_orders():
            for step in STEPS:
                self.assertEqual(Shortcuts(order, step).shortcuts(), plain_shortcuts(order, step))

    def test_the_step_is_16_where_none_is_told(self):
        for order in larger_orders():
            self.assertEqual(Shortcuts(order).shortcuts(), plain_shortcuts(order, 16))
            self.assertEqual(Shortcuts(order, step=16).shortcuts(), Shortcuts(order).shortcuts())

    def test_a_new_list_of_tuples_each_time(self):
        made = Shortcuts(one_round(40), 16)
        told = made.shortcuts()
        self.assertTrue(isinstance(told, list) and all(isinstance(one, tuple) for one in told))
        told.clear()
        self.assertEqual(made.shortcuts(), [(0, 32), (16, 0), (32, 16)])


class TestWayBack(unittest.TestCase):
    def test_by_hand(self):
        made = Shortcuts([1, 2, 3, 4, 0], 2)
        self.assertEqual(made.way_back(0), [0, 4])
        self.assertEqual(made.way_back(1), [1, 2, 0])
        self.assertEqual(made.way_back(2), [2, 0, 1])
        self.assertEqual(made.way_back(3), [3, 4, 2])
        self.assertEqual(made.way_back(4), [4, 2, 3])
        without = Shortcuts([1, 2, 3, 4, 0], 5)
        self.assertEqual(without.way_back(2), [2, 3, 4, 0, 1])
        self.assertEqual(Shortcuts([0], 1).way_back(0), [0])
        self.assertEqual(Shortcuts([1, 0], 1).way_back(0), [0, 1])
        self.assertEqual(Shortcuts([1, 0], 2).way_back(1), [1, 0])

    def check_ways(self, order, step):
        made = Shortcuts(order, step)
        shortcuts = dict(plain_shortcuts(order, step))
        for place in range(len(order)):
            way = made.way_back(place)
            self.assertEqual(way, plain_way_back(order, place, shortcuts))
            self.assertEqual(way[0], place)
            self.assertEqual(order[way[-1]], place)
            self.assertEqual(way[-1], made.back(place))
            self.assertLessEqual(len(way), 2 * step)

    def test_from_every_place(self):
        for order in small_orders() + larger_orders()[:-1]:
            for step in STEPS:
                self.check_ways(order, step)

    def test_of_the_largest_order(self):
        order = one_round(4000, 1237)
        for step in (1, 16, 64):
            made = Shortcuts(order, step)
            for place in range(4000):
                way = made.way_back(place)
                self.assertEqual((way[0], order[way[-1]]), (place, place))
                self.assertLessEqual(len(way), 2 * step)

    def test_a_new_list_each_time(self):
        made = Shortcuts([1, 2, 3, 4, 0], 2)
        made.way_back(1).append(7)
        self.assertEqual(made.way_back(1), [1, 2, 0])


if __name__ == "__main__":
    unittest.main()
