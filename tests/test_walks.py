"""Point 18: walks and their steps, against a mason who walks and against all orders."""

import unittest

from tests import plain
from tests.samples import (BACK, EMPTY, FAR, FULL, GAPPY, INWARD, LINE, LONE_ROOMS, LONG_RING, RING, STAR, TWICE, few,
                           small)
from walledin.errors import BadOrder, BadRoom, BadYard
from walledin.orders import stands
from walledin.walks import (has_walk, least_start, least_walk, mason_rooms, short_order, stays_put, walk_length,
                            walks_well)

# The gap from 0 to 3 is a short way, but only as long as its wall is not set.
ROUND = (4, ((0, 1, 0), (1, 2, 2), (2, 3, 2), (0, 3, 2)))
BOTH = (3, ((0, 1, 2), (1, 2, 2)))
TWO_LINES = (5, ((0, 1, 0), (1, 2, 0), (0, 3, 0), (3, 4, 0)))


class OneOrder(unittest.TestCase):
    def test_without_walls(self):
        for yard in (EMPTY, LONE_ROOMS):
            self.assertEqual([walk_length(yard, (), 0), mason_rooms(yard, (), 0), walks_well(yard, (), 0)],
                             [0, (), True])
        for room in (1, 2, 3):
            self.assertEqual([walk_length(LONE_ROOMS, (), room), mason_rooms(LONE_ROOMS, (), room),
                              walks_well(LONE_ROOMS, (), room)], [None, None, False])

    def test_orders_that_cannot_be_walked(self):
        for yard, order in ((LINE, (0, 1)), (BACK, (0, 1)), (BACK, (1, 0)), (INWARD, (0,)), (TWICE, (0, 2, 1))):
            for room in range(yard[0]):
                self.assertEqual([walk_length(yard, order, room), mason_rooms(yard, order, room),
                                  walks_well(yard, order, room)], [None, None, False])

    def test_rooms_from_which_no_order_can_be_walked(self):
        self.assertEqual([walk_length(GAPPY, (1, 0), room) for room in range(6)], [2, None, 1, None, None, 2])
        self.assertEqual([mason_rooms(GAPPY, (1, 0), room) for room in (1, 5)], [None, (2, 0)])

    def test_through_the_gap_of_the_wall_itself(self):
        # From room 1 the mason goes through the one gap, and sets its wall from outside.
        self.assertEqual([walk_length((2, ((0, 1, 0),)), (0,), 1), walk_length(INWARD, (0,), 0)], [1, None])
        self.assertEqual(walk_length(RING, (1, 0, 2), 1), 2)

    def test_least_rooms_of_the_fewest_steps(self):
        # Both rooms of wall 1 will do, the nearer one is told, and of two as near ones the lower one.
        self.assertEqual([mason_rooms(BOTH, (1, 0), room) for room in range(3)], [(1, 0), (1, 0), (1, 0)])
        self.assertEqual([walk_length(ROUND, (1, 2, 0, 3), room) for room in range(4)], [4, 3, 2, 3])
        self.assertEqual([mason_rooms(ROUND, (1, 2, 0, 3), room) for room in range(4)],
                         [(1, 3, 0, 0), (1, 3, 0, 0), (2, 3, 0, 0), (2, 3, 0, 0)])
        self.assertEqual(stands(ROUND, (1, 2, 0, 3)), (1, 3, 0, 0))

    def test_mason_who_walks(self):
        for yard in small():
            for order in plain.every_order(yard)[::2]:
                for room in range(yard[0]):
                    self.assertEqual(walk_length(yard, order, room), plain.walk_length(yard, order, room))

    def test_all_stands(self):
        for yard in few():
            for order in plain.every_order(yard)[::2]:
                for room in range(yard[0]):
                    found = plain.walks_with_stands(yard, order, room)
                    least = min(found.values(), default=None)
                    rows = sorted(row for row in found if found[row] == least)
                    self.assertEqual(walk_length(yard, order, room), least)
                    self.assertEqual([mason_rooms(yard, order, room)], rows[:1] or [None])

    def test_wrong_arguments(self):
        for function in (walk_length, mason_rooms, walks_well):
            with self.assertRaises(BadRoom):
                function(LINE, (0, 1), 3)
            with self.assertRaises(BadRoom):
                function(BACK, (0, 1), True)
            with self.assertRaises(BadOrder):
                function(LINE, (0, 0), 3)
            with self.assertRaises(BadYard):
                function((0, ()), (0, 0), 3)


class AllOrders(unittest.TestCase):
    def test_without_walls(self):
        for yard in (EMPTY, LONE_ROOMS):
            self.assertEqual([least_walk(yard, 0), short_order(yard, 0), least_start(yard), has_walk(yard, 0)],
                             [0, (), 0, True])
        for room in (1, 2, 3):
            self.assertEqual([least_walk(LONE_ROOMS, room), short_order(LONE_ROOMS, room), has_walk(LONE_ROOMS, room)],
                             [None, None, False])

    def test_no_order(self):
        for yard in (BACK, FAR, INWARD):
            self.assertIsNone(least_start(yard))
            for room in range(yard[0]):
                self.assertEqual([least_walk(yard, room), short_order(yard, room), has_walk(yard, room)],
                                 [None, None, False])

    def test_some(self):
        self.assertEqual([least_walk(LINE, room) for room in range(3)], [2, 1, 2])
        self.assertEqual([least_walk(GAPPY, room) for room in range(6)], [2, None, 1, None, None, 2])
        self.assertEqual([has_walk(GAPPY, room) for room in range(6)], [True, False, True, False, False, True])
        self.assertEqual([least_start(LINE), least_start(STAR), least_start(RING)], [1, 0, 2])
        self.assertEqual([walks_well(STAR, (2, 0, 1), 0), walks_well(LONG_RING, (1, 2, 0, 3), 0)], [True, True])
        self.assertEqual([walks_well(TWO_LINES, order, 1) for order in ((1, 3, 0, 2), (3, 1, 0, 2))], [True, False])
        self.assertEqual([walk_length(TWO_LINES, (3, 1, 0, 2), 1), least_walk(TWO_LINES, 1)], [5, 3])
        self.assertEqual([short_order(LONG_RING, 0), short_order(TWO_LINES, 1)], [(0, 1, 2, 3), (1, 0, 3, 2)])

    def test_twelve_walls(self):
        for room in range(9):
            order = short_order(FULL, room)
            self.assertEqual(walk_length(FULL, order, room), least_walk(FULL, room))
            self.assertIs(walks_well(FULL, order, room), True)
            self.assertEqual(len(mason_rooms(FULL, order, room)), 12)

    def test_all_orders(self):
        for yard in small():
            good = plain.good_orders(yard)
            starts = []
            for room in range(yard[0]):
                found = [plain.walk_length(yard, order, room) for order in good]
                least = min((steps for steps in found if steps is not None), default=None)
                best = [order for order, steps in zip(good, found) if steps is not None and steps == least]
                self.assertEqual(least_walk(yard, room), least)
                self.assertEqual([short_order(yard, room)], best[:1] or [None])
                self.assertIs(has_walk(yard, room), bool(best))
                for order in plain.every_order(yard)[::7]:
                    self.assertIs(walks_well(yard, order, room), order in best)
                if best:
                    starts.append((least, room))
            self.assertEqual([least_start(yard)], [room for _, room in sorted(starts)[:1]] or [None])


class Staying(unittest.TestCase):
    def test_some(self):
        self.assertEqual([stays_put(EMPTY, ()), stays_put((2, ((0, 1, 0),)), (0,)), stays_put(LINE, (1, 0))],
                         [(), (), ()])
        self.assertEqual([stays_put(BOTH, (1, 0)), stays_put(TWICE, (1, 2, 0)), stays_put(TWICE, (1, 0, 2))],
                         [(0,), (0, 1), (1,)])
        self.assertEqual([stays_put(LINE, (0, 1)), stays_put(BACK, (0, 1)), stays_put(TWICE, (0, 2, 1))], [None] * 3)

    def test_all_orders(self):
        for yard in small():
            good = plain.good_orders(yard)
            for order in plain.every_order(yard):
                rooms = [plain.setting_rooms(yard[1][number]) for number in order]
                expected = tuple(place for place in range(len(order) - 1) if rooms[place] & rooms[place + 1])
                self.assertEqual(stays_put(yard, order), expected if order in good else None)


if __name__ == "__main__":
    unittest.main()
