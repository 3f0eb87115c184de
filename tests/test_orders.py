"""Points 3 and 4: orders, against a mason who walks, and the least and the greatest of all orders."""

import unittest

from tests import plain
from tests.samples import BACK, EMPTY, FULL, INWARD, LINE, LONE_ROOMS, LONG_RING, RING, STAR, TWICE, small
from walledin.orders import can_walk, first_order, has_order, is_order, last_order, stands, stuck_at


class Walked(unittest.TestCase):
    def test_without_walls(self):
        for yard in (EMPTY, LONE_ROOMS):
            self.assertIs(is_order(yard, ()), True)
            self.assertIsNone(stuck_at(yard, ()))
            self.assertEqual(stands(yard, ()), ())
            self.assertIs(can_walk(yard, (), 0), True)
        self.assertIs(can_walk(LONE_ROOMS, (), 3), False)

    def test_last_wall_from_outside(self):
        self.assertIs(is_order(INWARD, (0,)), False)
        self.assertEqual(stuck_at(INWARD, (0,)), 0)
        self.assertIs(is_order((2, ((0, 1, 2),)), (0,)), True)
        self.assertIs(is_order(TWICE, (1, 0, 2)), True)
        self.assertIs(is_order(TWICE, (0, 2, 1)), False)

    def test_stuck_at_the_greatest_place(self):
        self.assertEqual(stuck_at(LINE, (0, 1)), 1)
        self.assertEqual(stuck_at(TWICE, (0, 2, 1)), 2)
        self.assertEqual(stuck_at((4, ((0, 1, 0), (1, 2, 1), (2, 3, 1), (0, 3, 0))), (2, 1, 0, 3)), 1)

    def test_stands_by_place(self):
        self.assertEqual(stands(LONG_RING, (2, 1, 0, 3)), (2, 1, 0, 0))
        self.assertEqual(stands(LONG_RING, (1, 2, 0, 3)), (1, 3, 0, 0))
        self.assertEqual(stands(TWICE, (1, 0, 2)), (1, 0, 0))
        self.assertIsNone(stands(LINE, (0, 1)))

    def test_rooms_to_begin_in(self):
        yard = (5, ((0, 1, 0), (2, 3, 0), (1, 2, 2)))
        self.assertEqual([can_walk(yard, (1, 2, 0), room) for room in range(5)], [True, True, True, True, False])
        self.assertEqual([can_walk(yard, (0, 1, 2), room) for room in range(5)], [False] * 5)

    def test_mason(self):
        for yard in small():
            for order in plain.every_order(yard):
                starts = [plain.mason_walks(yard, order, room) for room in range(yard[0])]
                self.assertEqual([can_walk(yard, order, room) for room in range(yard[0])], starts)
                self.assertIs(is_order(yard, order), any(starts))

    def test_plain_stuck_and_stands(self):
        for yard in small():
            for order in plain.every_order(yard):
                rooms = [plain.set_from(yard, order, place) for place in range(len(order))]
                stuck = [place for place in range(len(order)) if not rooms[place]]
                self.assertEqual(stuck_at(yard, order), max(stuck, default=None))
                expected = None if stuck else tuple(min(near) for near in rooms)
                self.assertEqual(stands(yard, order), expected)


class FirstAndLast(unittest.TestCase):
    def test_some(self):
        self.assertEqual([first_order(STAR), last_order(STAR)], [(0, 1, 2), (2, 1, 0)])
        self.assertEqual([first_order(EMPTY), last_order(EMPTY), has_order(EMPTY)], [(), (), True])
        self.assertEqual([first_order(BACK), last_order(BACK), has_order(BACK)], [None, None, False])
        self.assertEqual([first_order(RING), last_order(RING)], [(0, 1, 2), (1, 2, 0)])

    def test_twelve_walls(self):
        self.assertIs(has_order(FULL), True)
        for order in (first_order(FULL), last_order(FULL)):
            self.assertIs(is_order(FULL, order), True)
        self.assertEqual(last_order(FULL), (11, 10, 9, 8, 7, 6, 5, 4, 3, 2, 1, 0))
        star = (9, tuple((0, room, 0) for room in (1, 2, 3, 4, 5, 6, 7, 8, 1, 2, 3, 4)))
        self.assertEqual(first_order(star), tuple(range(12)))

    def test_all_orders(self):
        for yard in small():
            good = plain.good_orders(yard)
            self.assertIs(has_order(yard), bool(good))
            self.assertEqual(first_order(yard), min(good, default=None))
            self.assertEqual(last_order(yard), max(good, default=None))


if __name__ == "__main__":
    unittest.main()
