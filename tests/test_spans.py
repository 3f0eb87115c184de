"""Point 12: the rooms that the walls of orders cut off, and spans, against all orders and all lots."""

import unittest
from fractions import Fraction
from itertools import permutations

from tests import plain
from tests.samples import (BACK, EMPTY, FAR, FULL, GAPPY, INWARD, LINE, LONE_ROOMS, LONG_RING, RING, STAR, TWICE, WIDE,
                           few, small)
from walledin.counts import count_orders
from walledin.errors import BadLot, BadTree, BadYard
from walledin.spans import (count_room_orders, count_spans, cutters, is_span, orders_of_rooms, orders_with_span,
                            room_order, room_orders, spans, tree_of)

DOUBLE = (3, ((0, 1, 0), (0, 1, 2), (1, 2, 0), (1, 2, 1)))
ALL_WAYS = (9, tuple((0, room, 2) for room in range(1, 9)) + ((1, 2, 2), (2, 3, 1), (4, 5, 2), (7, 8, 0)))


def determinant(rows):
    """The determinant of a square of numbers."""
    rows = [[Fraction(item) for item in row] for row in rows]
    found = Fraction(1)
    for at in range(len(rows)):
        swap = next((k for k in range(at, len(rows)) if rows[k][at] != 0), None)
        if swap is None:
            return 0
        if swap != at:
            rows[at], rows[swap] = rows[swap], rows[at]
            found = -found
        found *= rows[at][at]
        for k in range(at + 1, len(rows)):
            part = rows[k][at] / rows[at][at]
            rows[k] = [one - part * other for one, other in zip(rows[k], rows[at])]
    return found


def told_spans(yard):
    """How many spans there are, by the steps that lead into each room that is joined to outside (Tutte)."""
    rooms = sorted(plain.joined(yard, plain.numbers(yard)) - {0})
    table = [[0] * len(rooms) for _ in rooms]
    for wall in yard[1]:
        for here in plain.setting_rooms(wall):
            there = wall[0] + wall[1] - here
            if there in rooms:
                table[rooms.index(there)][rooms.index(there)] += 1
                if here in rooms:
                    table[rooms.index(there)][rooms.index(here)] -= 1
    return determinant(table)


class Cutting(unittest.TestCase):
    def test_some(self):
        self.assertEqual([cutters(LINE, (1, 0)), tree_of(LINE, (1, 0)), room_order(LINE, (1, 0))],
                         [(1, 0), (0, 1), (2, 1)])
        self.assertEqual([cutters(DOUBLE, (3, 1, 2, 0)), tree_of(DOUBLE, (3, 1, 2, 0)),
                          room_order(DOUBLE, (3, 1, 2, 0))], [(2, 0), (0, 2), (2, 1)])
        self.assertEqual([cutters(TWICE, (1, 0, 2)), tree_of(TWICE, (1, 0, 2)), room_order(TWICE, (1, 0, 2))],
                         [(2,), (2,), (1,)])

    def test_orders_that_cannot_be_walked(self):
        for yard, order in ((LINE, (0, 1)), (BACK, (0, 1)), (BACK, (1, 0)), (INWARD, (0,)), (TWICE, (0, 2, 1))):
            self.assertEqual([cutters(yard, order), tree_of(yard, order), room_order(yard, order)], [None] * 3)

    def test_rooms_without_walls(self):
        for yard in (EMPTY, LONE_ROOMS):
            self.assertEqual([cutters(yard, ()), tree_of(yard, ()), room_order(yard, ())], [()] * 3)
        self.assertEqual([cutters(GAPPY, (1, 0)), room_order(GAPPY, (1, 0))], [(1, 0), (5, 2)])

    def test_all_orders(self):
        for yard in small():
            good = plain.good_orders(yard)
            for order in plain.every_order(yard):
                if order not in good:
                    self.assertEqual([cutters(yard, order), tree_of(yard, order), room_order(yard, order)], [None] * 3)
                    continue
                self.assertLessEqual(max(map(len, plain.cuts(yard, order)), default=0), 1)
                found = plain.cutters(yard, order)
                self.assertEqual(cutters(yard, order), found)
                self.assertEqual(tree_of(yard, order), tuple(sorted(found)))
                self.assertEqual(room_order(yard, order), plain.room_order(yard, order))


class Spans(unittest.TestCase):
    def test_without_walls(self):
        for yard in (EMPTY, LONE_ROOMS):
            self.assertEqual([spans(yard), count_spans(yard), is_span(yard, ()), orders_with_span(yard, ())],
                             [[()], 1, True, 1])

    def test_told_sides(self):
        self.assertEqual([spans(INWARD), count_spans(INWARD), is_span(INWARD, (0,)), is_span(INWARD, ())],
                         [[], 0, False, False])
        self.assertEqual([spans(BACK), is_span(BACK, (0, 1))], [[], False])
        self.assertEqual(spans(TWICE), [(0,), (2,)])
        self.assertEqual(spans(LONG_RING), [(0, 1, 2), (0, 1, 3), (0, 2, 3), (1, 2, 3)])

    def test_two_gaps_between_the_same_rooms(self):
        self.assertEqual(spans(DOUBLE), [(0, 2), (1, 2)])
        self.assertIs(is_span(DOUBLE, (0, 1)), False)

    def test_rooms_that_are_not_joined(self):
        # The rooms 2, 3 and 4 hang together, but not with outside: there is a span, but no order.
        self.assertEqual([spans(FAR), count_spans(FAR), is_span(FAR, (0,)), is_span(FAR, (0, 1))],
                         [[(0,)], 1, True, False])
        self.assertEqual(orders_with_span(FAR, (0,)), 0)

    def test_too_many_gaps_are_no_span(self):
        self.assertEqual([is_span(RING, (0, 1, 2)), is_span(STAR, (0, 1))], [False, False])

    def test_wrong_lots(self):
        for lot in ((1, 0), (3,), [0], None, (True,), 0):
            with self.assertRaises(BadLot):
                is_span(RING, lot)
            with self.assertRaises(BadLot):
                orders_with_span(RING, lot)
        for yard, lot in ((RING, ()), (RING, (0,)), (RING, (0, 1)), (RING, (0, 1, 2)), (BACK, (0,)), (BACK, (0, 1)),
                          (EMPTY, None), (INWARD, (0,))):
            with self.assertRaises(BadLot if lot is None else BadTree):
                orders_with_span(yard, lot)
        with self.assertRaises(BadYard):
            orders_with_span((3, ((0, 1),)), (0, 1))

    def test_greatest_yards(self):
        for yard in (FULL, ALL_WAYS):
            found = spans(yard)
            self.assertEqual(len(found), told_spans(yard))
            self.assertEqual(count_spans(yard), told_spans(yard))
            self.assertEqual(found, sorted(found))
            self.assertEqual(sum(orders_with_span(yard, lot) for lot in found), count_orders(yard))

    def test_all_lots(self):
        for yard in small():
            good = [plain.cutters(yard, order) for order in plain.good_orders(yard)]
            trees = [tuple(sorted(row)) for row in good]
            found = plain.spans(yard)
            self.assertEqual(spans(yard), found)
            self.assertEqual(count_spans(yard), len(found))
            self.assertEqual(told_spans(yard), len(found))
            if good:
                self.assertEqual(sorted(set(trees)), found)
            for lot in plain.every_lot(yard):
                self.assertIs(is_span(yard, lot), lot in found)
                if lot in found:
                    self.assertEqual(orders_with_span(yard, lot), trees.count(lot))
                else:
                    with self.assertRaises(BadTree):
                        orders_with_span(yard, lot)


class RoomOrders(unittest.TestCase):
    def test_without_walls(self):
        for yard in (EMPTY, LONE_ROOMS):
            self.assertEqual([room_orders(yard), count_room_orders(yard), orders_of_rooms(yard, ())], [[()], 1, 1])
            self.assertEqual([orders_of_rooms(yard, rooms) for rooms in ((0,), (1,), None, [])], [0] * 4)

    def test_no_order(self):
        for yard in (BACK, INWARD, FAR):
            self.assertEqual([room_orders(yard), count_room_orders(yard)], [[], 0])
            for rooms in ((), (1,), (1, 2), (2, 1)):
                self.assertEqual(orders_of_rooms(yard, rooms), 0)

    def test_unlike_ones(self):
        self.assertEqual([room_orders(DOUBLE), orders_of_rooms(DOUBLE, (2, 1))], [[(2, 1)], count_orders(DOUBLE)])
        self.assertEqual(room_orders(GAPPY), [(5, 2)])
        self.assertEqual(room_orders(STAR), sorted(permutations((1, 2, 3))))

    def test_any_value_as_rooms(self):
        self.assertEqual(orders_of_rooms(STAR, (3, 1, 2)), 1)
        for rooms in (None, True, 0, 312, "312", "", [3, 1, 2], {3: 1}, (3, 1), (3, 1, 2, 0), (0, 3, 1, 2), (3, 1, 1),
                      (3, True, 2), (3, 1, "2"), (3, 1, None), (3, 1, (2,)), ((3, 1, 2),), (3, 1, [2]), (3, 1, {}),
                      (3, 1, 4), (3, 1, -1), (3, 1, 10 ** 40), (), (False, 1, 2)):
            self.assertEqual(orders_of_rooms(STAR, rooms), 0, rooms)

    def test_greatest_yards(self):
        for yard in (FULL, ALL_WAYS):
            rows = room_orders(yard)
            self.assertEqual([len(rows), rows], [count_room_orders(yard), sorted(set(rows))])
            self.assertTrue(all(orders_of_rooms(yard, row) > 0 for row in rows[::5000]))
        self.assertEqual(count_room_orders((9, tuple((0, room, 0) for room in range(1, 9)))), 40320)

    def test_all_orders(self):
        for yard in small():
            good = [plain.room_order(yard, order) for order in plain.good_orders(yard)]
            self.assertEqual(room_orders(yard), sorted(set(good)))
            self.assertEqual(count_room_orders(yard), len(set(good)))
            for rooms in set(good):
                self.assertEqual(orders_of_rooms(yard, rooms), good.count(rooms))

    def test_all_tuples_of_rooms(self):
        for yard in few():
            if yard == WIDE:
                continue
            good = [plain.room_order(yard, order) for order in plain.good_orders(yard)]
            for size in range(yard[0] + 1):
                for rooms in permutations(range(yard[0]), size):
                    self.assertEqual(orders_of_rooms(yard, rooms), good.count(rooms))


if __name__ == "__main__":
    unittest.main()
