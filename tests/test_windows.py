"""Point 17: orders within windows, and the places of all walls, against all orders."""

import unittest
from math import factorial
from random import Random

from tests import plain
from tests.samples import BACK, EMPTY, FAR, FULL, INWARD, LINE, LONE_ROOMS, RING, STAR, TWICE, small
from walledin.counts import count_orders, place_counts
from walledin.errors import BadNumber
from walledin.orders import first_order
from walledin.windows import first_within, orders_within, place_table, walls_at

WIDE_STAR = (9, tuple((0, room, 0) for room in (1, 2, 3, 4, 5, 6, 7, 8, 1, 2, 3, 4)))


def some_windows(yard, seed):
    """Windows that leave all orders or none, and a fixed choice of others."""
    source = Random(seed)
    many = len(yard[1])
    found = [((0, many - 1),) * many, ((-10 ** 40, 10 ** 40),) * many, ((1, 0),) * many, ((many, many + 5),) * many]
    for _ in range(8):
        lows = [source.randint(-1, max(many - 2, 0)) for _ in range(many)]
        found.append(tuple((low, low + source.randint(0, many)) for low in lows))
    return found


def fits(order, windows):
    return all(windows[number][0] <= place <= windows[number][1] for place, number in enumerate(order))


class Windows(unittest.TestCase):
    def test_without_walls(self):
        for yard in (EMPTY, LONE_ROOMS):
            self.assertEqual([orders_within(yard, ()), first_within(yard, ())], [1, ()])
            for windows in (((0, 0),), [], None, 0):
                with self.assertRaises(BadNumber):
                    orders_within(yard, windows)
                with self.assertRaises(BadNumber):
                    first_within(yard, windows)

    def test_no_order(self):
        for yard in (BACK, FAR, INWARD):
            windows = ((0, 9),) * len(yard[1])
            self.assertEqual([orders_within(yard, windows), first_within(yard, windows)], [0, None])

    def test_edges_of_windows(self):
        for windows, many, first in (
                (((0, 2), (0, 2), (0, 2)), 6, (0, 1, 2)),
                (((-7, 9), (-10 ** 40, 10 ** 40), (0, 2)), 6, (0, 1, 2)),
                (((1, 0), (0, 2), (0, 2)), 0, None),
                (((10 ** 40, -10 ** 40), (0, 2), (0, 2)), 0, None),
                (((3, 9), (0, 2), (0, 2)), 0, None),
                (((-9, -1), (0, 2), (0, 2)), 0, None),
                (((2, 5), (0, 2), (0, 2)), 2, (1, 2, 0)),
                (((1, 1), (-3, 0), (0, 2)), 1, (1, 0, 2)),
                (((0, 1), (0, 1), (0, 1)), 0, None)):
            self.assertEqual([orders_within(STAR, windows), first_within(STAR, windows)], [many, first])
        self.assertEqual([orders_within(LINE, ((0, 0), (1, 1))), orders_within(LINE, ((1, 1), (0, 0)))], [0, 1])

    def test_twelve_walls(self):
        halves = ((0, 5), (6, 11)) * 6
        self.assertEqual(orders_within(WIDE_STAR, halves), factorial(6) ** 2)
        self.assertEqual(first_within(WIDE_STAR, halves), (0, 2, 4, 6, 8, 10, 1, 3, 5, 7, 9, 11))
        self.assertEqual([orders_within(FULL, ((0, 11),) * 12), first_within(FULL, ((0, 11),) * 12)],
                         [count_orders(FULL), first_order(FULL)])

    def test_all_orders(self):
        for yard in small():
            good = plain.good_orders(yard)
            for windows in some_windows(yard, len(good)):
                found = [order for order in good if fits(order, windows)]
                self.assertEqual(orders_within(yard, windows), len(found))
                self.assertEqual([first_within(yard, windows)], found[:1] or [None])


class Places(unittest.TestCase):
    def test_without_walls(self):
        for yard in (EMPTY, LONE_ROOMS):
            self.assertEqual([walls_at(yard, 0), walls_at(yard, 11), place_table(yard)], [(), (), ()])

    def test_no_order(self):
        self.assertEqual([walls_at(BACK, place) for place in (0, 1, 2, 11)], [()] * 4)
        self.assertEqual([place_table(BACK), place_table(INWARD)], [((0, 0), (0, 0)), ((0,),)])

    def test_edges_of_places(self):
        self.assertEqual([walls_at(LINE, place) for place in (0, 1, 2, 11)], [(1,), (0,), (), ()])
        self.assertEqual([walls_at(TWICE, place) for place in range(4)], [(0, 1, 2), (0, 1, 2), (0, 2), ()])
        for place in (-1, 12, True, False, None, "0", (0,), 10 ** 40):
            for yard in (EMPTY, LINE, FULL):
                with self.assertRaises(BadNumber):
                    walls_at(yard, place)

    def test_twelve_walls(self):
        self.assertEqual(walls_at(FULL, 11), (0, 1, 2, 3, 4, 5, 6, 7))
        self.assertEqual(walls_at(WIDE_STAR, 11), tuple(range(12)))
        self.assertEqual(place_table(WIDE_STAR), ((factorial(11),) * 12,) * 12)

    def test_all_orders(self):
        for yard in small():
            good = plain.good_orders(yard)
            for place in range(12):
                expected = {order[place] for order in good if place < len(order)}
                self.assertEqual(walls_at(yard, place), tuple(sorted(expected)))
            table = tuple(tuple(sum(order[place] == number for order in good) for place in plain.numbers(yard))
                          for number in plain.numbers(yard))
            self.assertEqual(place_table(yard), table)
            self.assertEqual(place_table(yard), tuple(place_counts(yard, number) for number in plain.numbers(yard)))

    def test_ring(self):
        self.assertEqual(place_table(RING), ((1, 1, 1), (2, 1, 0), (0, 1, 2)))


if __name__ == "__main__":
    unittest.main()
