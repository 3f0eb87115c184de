"""Point 6: traps, against all tuples of rooms, and what cures a yard of them."""

import unittest

from tests import plain
from tests.samples import EMPTY, FAR, FULL, GAPPY, INWARD, LINE, LONE_ROOMS, RING, STAR, small
from walledin.orders import has_order
from walledin.traps import cures, greatest_trap, is_trap, least_trap_with, least_traps, traps, walls_around

INNER = (4, ((1, 2, 2),))
TWO = (5, ((0, 1, 1), (1, 2, 2), (3, 4, 0)))


class Traps(unittest.TestCase):
    def test_no_trap(self):
        for yard in (EMPTY, LONE_ROOMS, LINE, RING, STAR):
            self.assertEqual([traps(yard), least_traps(yard), greatest_trap(yard)], [[], [], None])
            self.assertEqual([least_trap_with(yard, room) for room in range(yard[0])], [None] * yard[0])
            self.assertEqual(cures(yard), tuple(plain.numbers(yard)))

    def test_rooms_that_are_no_trap(self):
        for rooms in ((), (0,), (0, 1), (0, 1, 2), (1,), (4,)):
            self.assertIs(is_trap(TWO, rooms), False)
        for rooms in ((), (0,), (0, 1)):
            self.assertIs(is_trap(INWARD, rooms), False)
        self.assertIs(is_trap(INWARD, (1,)), True)

    def test_rooms_without_walls(self):
        self.assertIs(is_trap(LONE_ROOMS, (1, 2)), False)
        self.assertIs(is_trap(FAR, (2, 3, 4)), True)
        # The rooms 1, 3 and 4 have no walls: alone they are none, beside others they are part of a trap.
        gappy = (6, ((0, 2, 1), (2, 5, 0)))
        self.assertIs(is_trap(gappy, (1, 3, 4)), False)
        self.assertIs(is_trap(gappy, (1, 2)), True)
        self.assertEqual(greatest_trap(gappy), (1, 2, 3, 4, 5))
        self.assertEqual(least_trap_with(gappy, 5), (2, 5))
        self.assertIsNone(least_trap_with(gappy, 1))
        self.assertIsNone(least_trap_with(GAPPY, 5))

    def test_walls_within(self):
        self.assertEqual(traps(INNER), [(1, 2), (1, 2, 3)])
        self.assertEqual(least_traps(INNER), [(1, 2)])
        self.assertEqual(greatest_trap(INNER), (1, 2, 3))
        self.assertEqual(cures(INNER), ())

    def test_several(self):
        self.assertEqual(traps(TWO), [(3,), (1, 2), (3, 4), (1, 2, 3), (1, 2, 3, 4)])
        self.assertEqual(least_traps(TWO), [(3,), (1, 2)])
        self.assertEqual([least_trap_with(TWO, room) for room in range(5)], [None, (1, 2), (1, 2), (3,), (3, 4)])
        self.assertEqual(cures(TWO), ())
        self.assertEqual(cures((4, ((0, 1, 1), (1, 2, 1), (2, 3, 0), (0, 2, 1)))), (3,))
        self.assertEqual(cures((3, ((0, 1, 1), (1, 2, 2), (0, 2, 1)))), (0, 2))

    def test_walls_around(self):
        self.assertEqual(walls_around(TWO, ()), ())
        self.assertEqual(walls_around(TWO, (0,)), (0,))
        self.assertEqual(walls_around(TWO, (1, 3)), (0, 1, 2))
        self.assertEqual(walls_around(TWO, (3, 4)), ())
        self.assertEqual(walls_around(RING, (0, 1, 2)), ())

    def test_nine_rooms(self):
        self.assertEqual(traps(FULL), [])
        self.assertEqual(len(traps((9, ((7, 8, 0),)))), 2 ** 8 - 2 ** 7)

    def test_all_rooms(self):
        for yard in small():
            found = plain.traps(yard)
            for rooms in plain.every_rooms(yard):
                self.assertIs(is_trap(yard, rooms), rooms in found)
                around = tuple(number for number, (low, high, _) in enumerate(yard[1])
                               if len({low, high} & set(rooms)) == 1)
                self.assertEqual(walls_around(yard, rooms), around)
            self.assertEqual(traps(yard), found)
            least = [one for one in found if not any(set(other) < set(one) for other in found)]
            self.assertEqual(least_traps(yard), least)
            greatest = [one for one in found if all(set(other) <= set(one) for other in found)]
            self.assertEqual([greatest_trap(yard)], greatest or [None])
            self.assertEqual(has_order(yard), not found)

    def test_all_rooms_with_one(self):
        for yard in small():
            found = plain.traps(yard)
            for room in range(yard[0]):
                with_it = [one for one in found if room in one]
                least = [one for one in with_it if all(set(one) <= set(other) for other in with_it)]
                if not any(room in wall[:2] for wall in yard[1]):
                    least = []
                self.assertEqual([least_trap_with(yard, room)], least or [None])

    def test_all_cures(self):
        for yard in small():
            good = tuple(number for number in plain.numbers(yard)
                         if not plain.traps(plain.with_side(yard, number, 2)))
            self.assertEqual(cures(yard), good)


if __name__ == "__main__":
    unittest.main()
