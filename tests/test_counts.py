"""Point 10: all orders that can be walked, against the list of them."""

import unittest
from math import factorial

from tests import plain
from tests.samples import BACK, EMPTY, FULL, INWARD, LINE, LONE_ROOMS, RING, STAR, small
from walledin.counts import (ahead_chance, count_orders, mean_place, next_order, order_at, place_counts, rank_of,
                             swaps)
from walledin.errors import BadNumber, BadWall
from walledin.orders import first_order, is_order, last_order

WIDE_STAR = (9, tuple((0, room, 0) for room in (1, 2, 3, 4, 5, 6, 7, 8, 1, 2, 3, 4)))


class Counts(unittest.TestCase):
    def test_without_walls(self):
        for yard in (EMPTY, LONE_ROOMS):
            self.assertEqual([count_orders(yard), order_at(yard, 0), order_at(yard, 1)], [1, (), None])
            self.assertEqual([rank_of(yard, ()), next_order(yard, ()), swaps(yard, ())], [0, None, ()])

    def test_no_order(self):
        self.assertEqual([count_orders(BACK), order_at(BACK, 0), rank_of(BACK, (1, 0))], [0, None, None])
        self.assertEqual([next_order(BACK, (1, 0)), place_counts(BACK, 0)], [None, (0, 0)])
        self.assertEqual([mean_place(BACK, 0), ahead_chance(BACK, 0, 1), swaps(BACK, (0, 1))], [None, None, ()])
        self.assertEqual([place_counts(INWARD, 0), mean_place(INWARD, 0)], [(0,), None])

    def test_edges_of_ranks(self):
        self.assertEqual([order_at(STAR, 0), order_at(STAR, 5)], [(0, 1, 2), (2, 1, 0)])
        self.assertEqual([order_at(STAR, 6), order_at(STAR, 10 ** 40)], [None, None])
        self.assertIsNone(next_order(STAR, (2, 1, 0)))
        self.assertIsNone(next_order(LINE, (0, 1)))
        self.assertIsNone(rank_of(LINE, (0, 1)))
        for rank in (-1, True, False, None, "0", (0,)):
            with self.assertRaises(BadNumber):
                order_at(BACK, rank)

    def test_ratios(self):
        self.assertEqual([mean_place(LINE, 0), mean_place(LINE, 1)], [(1, 1), (0, 1)])
        self.assertEqual([ahead_chance(LINE, 0, 1), ahead_chance(LINE, 1, 0)], [(0, 1), (1, 1)])
        self.assertEqual(mean_place((3, ((0, 1, 0), (0, 2, 0))), 0), (1, 2))
        with self.assertRaises(BadWall):
            ahead_chance(STAR, 1, 1)

    def test_swaps_of_any_order(self):
        self.assertEqual(swaps(LINE, (0, 1)), (0,))
        self.assertEqual(swaps(LINE, (1, 0)), ())
        self.assertEqual(swaps(RING, (0, 1, 2)), plain_swaps(RING, (0, 1, 2)))
        self.assertEqual(swaps(INWARD, (0,)), ())

    def test_twelve_walls(self):
        total = factorial(12)
        self.assertEqual(count_orders(WIDE_STAR), total)
        self.assertEqual(order_at(WIDE_STAR, total - 1), tuple(range(11, -1, -1)))
        self.assertIsNone(order_at(WIDE_STAR, total))
        self.assertEqual(rank_of(WIDE_STAR, (1, 0) + tuple(range(2, 12))), factorial(11))
        self.assertEqual(place_counts(WIDE_STAR, 7), (factorial(11),) * 12)
        self.assertEqual(mean_place(WIDE_STAR, 3), (11, 2))
        self.assertEqual(ahead_chance(WIDE_STAR, 3, 9), (1, 2))
        for rank in (0, 1, 1000, count_orders(FULL) - 2):
            order = order_at(FULL, rank)
            self.assertIs(is_order(FULL, order), True)
            self.assertEqual(rank_of(FULL, order), rank)
            self.assertEqual(next_order(FULL, order), order_at(FULL, rank + 1))
        self.assertEqual(order_at(FULL, 0), first_order(FULL))
        self.assertEqual(order_at(FULL, count_orders(FULL) - 1), last_order(FULL))

    def test_all_orders(self):
        for yard in small():
            good = plain.good_orders(yard)
            self.assertEqual(count_orders(yard), len(good))
            for rank, order in enumerate(good):
                self.assertEqual(order_at(yard, rank), order)
                self.assertEqual(next_order(yard, order), good[rank + 1] if rank + 1 < len(good) else None)
            self.assertIsNone(order_at(yard, len(good)))
            for order in plain.every_order(yard):
                self.assertEqual(rank_of(yard, order), good.index(order) if order in good else None)
                if order not in good:
                    self.assertIsNone(next_order(yard, order))
                self.assertEqual(swaps(yard, order), plain_swaps(yard, order, good))

    def test_all_places(self):
        for yard in small():
            good = plain.good_orders(yard)
            for number in plain.numbers(yard):
                spots = [order.index(number) for order in good]
                self.assertEqual(place_counts(yard, number), tuple(map(spots.count, plain.numbers(yard))))
                self.assertEqual(mean_place(yard, number), plain.ratio(sum(spots), len(good)))
                for other in plain.numbers(yard):
                    if other != number:
                        ahead = sum(order.index(number) < order.index(other) for order in good)
                        self.assertEqual(ahead_chance(yard, number, other), plain.ratio(ahead, len(good)))


def plain_swaps(yard, order, good=None):
    if good is None:
        good = plain.good_orders(yard)
    found = []
    for place in range(len(order) - 1):
        changed = list(order)
        changed[place], changed[place + 1] = changed[place + 1], changed[place]
        if tuple(changed) in good:
            found.append(place)
    return tuple(found)


if __name__ == "__main__":
    unittest.main()
