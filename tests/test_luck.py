"""Points 20 and 21: the random mason, against all rows of its moves, and warmth, against all orders."""

import unittest

from tests import plain
from tests.samples import (BACK, EMPTY, FAR, FULL, GAPPY, INWARD, LINE, LONE_ROOMS, LONG_RING, RING, STAR, TWICE, few,
                           small)
from walledin.errors import BadOrder, BadRoom
from walledin.luck import cool_order, first_moves, greatest_warmth, least_warmth, luck, warmth

WIDE_STAR = (9, tuple((0, room, 0) for room in (1, 2, 3, 4, 5, 6, 7, 8, 1, 2, 3, 4)))
EITHER_STAR = (9, tuple((0, room, 2) for room in range(1, 9)))


class Luck(unittest.TestCase):
    def test_without_walls(self):
        self.assertEqual([luck(EMPTY, 0), first_moves(EMPTY, 0)], [(1, 1), ()])
        self.assertEqual([luck(LONE_ROOMS, room) for room in range(4)], [(1, 1), (0, 1), (0, 1), (0, 1)])
        self.assertEqual([first_moves(LONE_ROOMS, room) for room in (0, 3)], [(), ()])

    def test_moves(self):
        self.assertEqual(first_moves(TWICE, 1), ((0, 0), (1, 1), (2, 0), (2, 1)))
        self.assertEqual(first_moves(LONG_RING, 2), ((0, 0), (1, 1), (1, 2), (2, 2), (2, 3), (3, 0)))
        self.assertEqual([first_moves(FAR, room) for room in range(5)],
                         [((0, 0),), ((0, 0),), ((1, 2), (1, 3), (2, 3)), ((1, 2), (1, 3), (2, 3)),
                          ((1, 2), (1, 3), (2, 3))])
        self.assertEqual([first_moves(GAPPY, 1), first_moves(INWARD, 0)], [(), ((0, 1),)])

    def test_stuck_masons(self):
        # Inside of a wall, or in a part of the yard without outside, nothing is left to be set at last.
        self.assertEqual([luck(yard, room) for yard in (INWARD, BACK, FAR) for room in range(yard[0])], [(0, 1)] * 10)
        self.assertEqual([luck(GAPPY, room) for room in range(6)],
                         [(1, 6), (0, 1), (1, 6), (0, 1), (0, 1), (1, 6)])
        self.assertEqual([luck((2, ((0, 1, 2),)), room) for room in (0, 1)], [(1, 2), (1, 2)])

    def test_twelve_walls(self):
        self.assertEqual([luck(WIDE_STAR, 0), luck(WIDE_STAR, 8)], [(1, 1), (1, 1)])
        self.assertEqual([luck(EITHER_STAR, 0), luck(EITHER_STAR, 5)], [(1, 256), (1, 256)])
        self.assertEqual(luck((2, ((0, 1, 2),) * 12), 1), (1, 2))

    def test_wrong_rooms(self):
        for room in (-1, 3, True, None, "0", (0,), [0]):
            for function in (luck, first_moves):
                for yard in (LINE, BACK, (3, ())):
                    with self.assertRaises(BadRoom):
                        function(yard, room)

    def test_all_rows_of_moves(self):
        for yard in few() + [RING, STAR]:
            every = tuple(plain.numbers(yard))
            for room in range(yard[0]):
                self.assertEqual(first_moves(yard, room), tuple(plain.moves(yard, every, room)))
                rows = plain.rows_of_moves(yard, every, room)
                self.assertEqual(sum(chance for chance, _, _ in rows), 1)
                chance = sum(chance for chance, left, last in rows if left == () and last == 0)
                self.assertEqual(luck(yard, room), plain.ratio(chance, 1))


class Warmth(unittest.TestCase):
    def test_without_walls(self):
        for yard in (EMPTY, LONE_ROOMS):
            self.assertEqual([warmth(yard, ()), least_warmth(yard), greatest_warmth(yard), cool_order(yard)],
                             [0, 0, 0, ()])

    def test_no_order(self):
        for yard in (BACK, FAR, INWARD):
            self.assertEqual([least_warmth(yard), greatest_warmth(yard), cool_order(yard)], [None, None, None])
        self.assertEqual([warmth(BACK, (0, 1)), warmth(BACK, (1, 0)), warmth(FAR, (1, 2, 0))], [0, 1, 2])

    def test_some(self):
        self.assertEqual([warmth(LINE, (0, 1)), warmth(TWICE, (0, 1, 2)), warmth(RING, (0, 1, 2))], [0, 2, 3])
        self.assertEqual([least_warmth(RING), greatest_warmth(RING), cool_order(RING)], [3, 3, (0, 1, 2)])
        wide = (4, ((0, 1, 0), (0, 2, 0), (1, 2, 0), (0, 3, 0)))
        self.assertEqual([least_warmth(wide), greatest_warmth(wide), cool_order(wide)], [5, 6, (3, 1, 2, 0)])
        for order in ((0, 0), None, [0, 1], (0, 1, 2)):
            with self.assertRaises(BadOrder):
                warmth(LINE, order)

    def test_twelve_walls(self):
        self.assertEqual([least_warmth(WIDE_STAR), greatest_warmth(WIDE_STAR)], [38, 60])
        self.assertEqual(cool_order(WIDE_STAR), (4, 5, 6, 7, 0, 8, 1, 9, 2, 10, 3, 11))
        self.assertEqual(warmth(FULL, cool_order(FULL)), least_warmth(FULL))

    def test_all_orders(self):
        for yard in small():
            for order in plain.every_order(yard):
                self.assertEqual(warmth(yard, order), plain.warmth(yard, order))
            good = plain.good_orders(yard)
            found = [plain.warmth(yard, order) for order in good]
            self.assertEqual([least_warmth(yard), greatest_warmth(yard)],
                             [min(found, default=None), max(found, default=None)])
            self.assertEqual(cool_order(yard), good[found.index(min(found))] if good else None)


if __name__ == "__main__":
    unittest.main()
