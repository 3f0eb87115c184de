"""Points 14 and 15: delays and costs, against all orders."""

import unittest
from math import factorial

from tests import plain
from tests.samples import BACK, EMPTY, FAR, FULL, INWARD, LINE, LONE_ROOMS, RING, STAR, TWICE, rows, small
from walledin.counts import count_orders
from walledin.dues import cheap_order, count_cheap, delay, due_order, in_time, least_cost, least_delay
from walledin.errors import BadNumber, BadOrder
from walledin.orders import is_order

WIDE_STAR = (9, tuple((0, room, 0) for room in (1, 2, 3, 4, 5, 6, 7, 8, 1, 2, 3, 4)))
OF_ROWS = (least_delay, due_order, in_time, least_cost, cheap_order, count_cheap)


def greatest_delay(order, dues):
    return max((place + 1 - dues[number] for place, number in enumerate(order)), default=None)


def cost(order, weights):
    return sum(weights[number] * (place + 1) for place, number in enumerate(order))


def plain_due_order(yard, dues):
    """The order of the document's words, from its end."""
    if not plain.good_orders(yard):
        return None
    order = []
    while len(order) < len(yard[1]):
        come = plain.come(yard, order)
        ready = [number for number in plain.numbers(yard)
                 if number not in order and plain.setting_rooms(yard[1][number]) & come]
        greatest = max(dues[number] for number in ready)
        order.insert(0, max(number for number in ready if dues[number] == greatest))
    return tuple(order)


class WrongRows(unittest.TestCase):
    def test_edges_of_numbers(self):
        for low in (-1000, 1000):
            self.assertEqual(delay(INWARD, (0,), (low,)), 1 - low)
            self.assertEqual(least_cost((2, ((0, 1, 0),)), (low,)), low)
        for row in ((-1001,), (1001,), (0, 0), (), [0], (True,), (None,), ("0",), 0, None, {0: 0}):
            for function in OF_ROWS:
                for yard in (INWARD, (2, ((0, 1, 0),))):
                    with self.assertRaises(BadNumber):
                        function(yard, row)
            with self.assertRaises(BadNumber):
                delay(INWARD, (0,), row)
            with self.assertRaises(BadOrder):
                delay(INWARD, (1,), row)

    def test_rows_without_walls(self):
        for row in ((0,), [], None, {}, ""):
            for function in OF_ROWS:
                with self.assertRaises(BadNumber):
                    function(EMPTY, row)


class Dues(unittest.TestCase):
    def test_without_walls(self):
        for yard in (EMPTY, LONE_ROOMS):
            self.assertEqual([delay(yard, (), ()), least_delay(yard, ()), due_order(yard, ()), in_time(yard, ())],
                             [None, None, (), 1])

    def test_no_order(self):
        for yard in (BACK, FAR, INWARD):
            dues = (5,) * len(yard[1])
            self.assertEqual([least_delay(yard, dues), due_order(yard, dues), in_time(yard, dues)], [None, None, 0])
        self.assertEqual(delay(BACK, (1, 0), (1, 5)), 1)

    def test_orders_that_cannot_be_walked(self):
        self.assertEqual([delay(LINE, (0, 1), (0, 0)), delay(LINE, (0, 1), (5, 2)), delay(LINE, (1, 0), (5, 2))],
                         [2, 0, -1])

    def test_greatest_number_of_alike_dues(self):
        self.assertEqual(due_order(STAR, (0, 0, 0)), (0, 1, 2))
        self.assertEqual(due_order(STAR, (7, -3, 7)), (1, 0, 2))
        self.assertEqual(due_order(TWICE, (3, 9, 3)), (0, 1, 2))
        self.assertEqual(due_order(RING, (-2, 1000, -1000)), (1, 2, 0))

    def test_in_time(self):
        self.assertEqual([in_time(STAR, dues) for dues in ((3, 3, 3), (1, 2, 3), (2, 2, 3), (1, 1, 3), (3, 3, 0))],
                         [6, 1, 2, 0, 0])

    def test_twelve_walls(self):
        dues = tuple(range(1, 13))
        self.assertEqual([due_order(WIDE_STAR, dues), least_delay(WIDE_STAR, dues), in_time(WIDE_STAR, dues)],
                         [tuple(range(12)), 0, 1])
        self.assertEqual(in_time(WIDE_STAR, (6,) * 6 + (12,) * 6), factorial(6) ** 2)
        self.assertEqual(in_time(FULL, (12,) * 12), count_orders(FULL))
        self.assertIs(is_order(FULL, due_order(FULL, dues)), True)

    def test_all_orders(self):
        for yard in small():
            good = plain.good_orders(yard)
            every = plain.every_order(yard)
            for dues in rows(yard, -1000, 1000, len(every)):
                found = [greatest_delay(order, dues) for order in good]
                for order in every[::5]:
                    self.assertEqual(delay(yard, order, dues), greatest_delay(order, dues))
                self.assertEqual(least_delay(yard, dues), min(found, default=None) if yard[1] else None)
                self.assertEqual(due_order(yard, dues), plain_due_order(yard, dues))
                self.assertEqual(in_time(yard, dues), sum(late is None or late <= 0 for late in found))
                if good and yard[1]:
                    self.assertIn(due_order(yard, dues), good)
                    self.assertEqual(greatest_delay(due_order(yard, dues), dues), min(found))


class Costs(unittest.TestCase):
    def test_without_walls(self):
        for yard in (EMPTY, LONE_ROOMS):
            self.assertEqual([least_cost(yard, ()), cheap_order(yard, ()), count_cheap(yard, ())], [0, (), 1])

    def test_no_order(self):
        for yard in (BACK, FAR, INWARD):
            weights = (3,) * len(yard[1])
            self.assertEqual([least_cost(yard, weights), cheap_order(yard, weights), count_cheap(yard, weights)],
                             [None, None, 0])

    def test_some(self):
        self.assertEqual([least_cost(STAR, (1, 2, 3)), cheap_order(STAR, (1, 2, 3)), count_cheap(STAR, (1, 2, 3))],
                         [10, (2, 1, 0), 1])
        self.assertEqual([least_cost(STAR, (5, -1000, 5)), cheap_order(STAR, (5, -1000, 5)),
                          count_cheap(STAR, (5, -1000, 5))], [15 - 3000, (0, 2, 1), 2])
        self.assertEqual([least_cost(LINE, (9, 1)), cheap_order(LINE, (9, 1))], [19, (1, 0)])

    def test_twelve_walls(self):
        weights = (1000,) * 6 + (-1000,) * 6
        self.assertEqual([least_cost(WIDE_STAR, weights), cheap_order(WIDE_STAR, weights)],
                         [-36000, tuple(range(12))])
        self.assertEqual(count_cheap(WIDE_STAR, weights), factorial(6) ** 2)
        self.assertEqual(count_cheap(FULL, (7,) * 12), count_orders(FULL))

    def test_all_orders(self):
        for yard in small():
            good = plain.good_orders(yard)
            for weights in rows(yard, -1000, 1000, len(good)):
                found = [cost(order, weights) for order in good]
                least = min(found, default=None)
                self.assertEqual(least_cost(yard, weights), least)
                self.assertEqual(count_cheap(yard, weights), found.count(least))
                self.assertEqual(cheap_order(yard, weights), good[found.index(least)] if good else None)


if __name__ == "__main__":
    unittest.main()
