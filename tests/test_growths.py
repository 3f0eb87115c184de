"""Points 22 and 23: orders that grow at random, against all rows of draws, and what bars an order."""

import unittest
from fractions import Fraction

from tests import plain
from tests.samples import (BACK, DOUBLE, EITHER, EMPTY, FAR, FULL, GAPPY, INWARD, LINE, LONE_ROOMS, LONG_RING, RING,
                           STAR, TWICE, few, small)
from walledin.errors import BadOrder, BadWall, BadYard
from walledin.growths import growth_chance, last_chance, likeliest, open_chance, sides_used, why_not
from walledin.orders import is_order

WIDE_STAR = (9, tuple((0, room, 0) for room in (1, 2, 3, 4, 5, 6, 7, 8, 1, 2, 3, 4)))
TWO_LINES = (5, ((0, 1, 0), (1, 2, 0), (0, 3, 0), (3, 4, 0)))
NO_OPEN_LOTS = (None, True, False, 0, 1, -1, 10 ** 40, "", "01", [], [0], {}, {0: 1}, (True,), (False,), ("0",),
                (None,), ((),), ((0,),), ([0],), ({},), (1, 0), (0, 0), (-1,), (9,), (0, 9), (0, None), (0, 10 ** 40))


class Growing(unittest.TestCase):
    def test_without_walls(self):
        for yard in (EMPTY, LONE_ROOMS):
            self.assertEqual([growth_chance(yard, ()), open_chance(yard, ()), likeliest(yard)], [(1, 1), (1, 1), ()])
            with self.assertRaises(BadWall):
                last_chance(yard, 0)

    def test_some(self):
        self.assertEqual([growth_chance(LINE, (1, 0)), growth_chance(LINE, (0, 1))], [(1, 1), (0, 1)])
        # From the end: one of the walls 0 and 2, then one of two others each time.
        self.assertEqual([growth_chance(TWO_LINES, (1, 3, 0, 2)), growth_chance(TWO_LINES, (3, 2, 1, 0))],
                         [(1, 8), (1, 4)])
        self.assertEqual(likeliest(TWO_LINES), (1, 0, 3, 2))
        self.assertEqual([open_chance(TWO_LINES, lot) for lot in ((), (0,), (0, 1), (0, 2), (0, 1, 2), (0, 1, 2, 3))],
                         [(1, 1), (1, 2), (1, 4), (1, 2), (1, 2), (1, 1)])
        self.assertEqual([last_chance(TWO_LINES, number) for number in range(4)], [(0, 1), (1, 2), (0, 1), (1, 2)])
        self.assertEqual([growth_chance(DOUBLE, (1, 0, 2, 3)), last_chance(DOUBLE, 3)], [(1, 4), (1, 8)])

    def test_no_order(self):
        # The gaps that can be open are drawn all the same: of FAR those of the wall 0 alone.
        for yard in (BACK, FAR, INWARD):
            self.assertIsNone(likeliest(yard))
            for number in plain.numbers(yard):
                self.assertIsNone(last_chance(yard, number))
            for order in plain.every_order(yard):
                self.assertEqual(growth_chance(yard, order), (0, 1))
        self.assertEqual([open_chance(FAR, lot) for lot in ((), (0,), (0, 1), (0, 1, 2))],
                         [(1, 1), (1, 1), (0, 1), (0, 1)])
        self.assertEqual([open_chance(BACK, (0,)), open_chance(BACK, (0, 1)), open_chance(INWARD, (0,))],
                         [(1, 1), (0, 1), (0, 1)])

    def test_any_value_as_lot(self):
        for yard in (STAR, BACK, LINE, EMPTY, FAR):
            for value in NO_OPEN_LOTS:
                self.assertEqual(open_chance(yard, value), (0, 1), repr(value))
        with self.assertRaises(BadYard):
            open_chance((3, None), ())

    def test_wrong_arguments(self):
        for order in ((0, 0), None, [1, 0], (0, 1, 2), (0, True)):
            with self.assertRaises(BadOrder):
                growth_chance(LINE, order)
        for number in (2, -1, True, None, "0", (0,)):
            for yard in (LINE, BACK):
                with self.assertRaises(BadWall):
                    last_chance(yard, number)

    def test_twelve_walls(self):
        order = tuple(range(12))
        self.assertEqual(growth_chance(WIDE_STAR, order), (1, 479001600))
        self.assertEqual([open_chance(WIDE_STAR, (3, 7)), open_chance(WIDE_STAR, order[1:])], [(1, 66), (1, 12)])
        self.assertEqual([likeliest(WIDE_STAR), last_chance(WIDE_STAR, 11)], [order, (1, 12)])
        self.assertIs(is_order(FULL, likeliest(FULL)), True)
        self.assertEqual(sum(Fraction(*last_chance(FULL, number)) for number in range(12)), 1)

    def test_all_rows_of_draws(self):
        for yard in few() + [DOUBLE, EITHER, TWO_LINES, STAR, RING, LONG_RING, TWICE]:
            rows = plain.draws(yard)
            self.assertEqual(sum(chance for chance, _ in rows), 1)
            chances = {row[::-1]: chance for chance, row in rows}
            self.assertEqual(len(chances), len(rows))
            good = plain.good_orders(yard)
            for order in plain.every_order(yard):
                expected = chances[order] if order in good else 0
                self.assertEqual(growth_chance(yard, order), plain.ratio(expected, 1))
            for lot in plain.every_lot(yard):
                chance = sum(chance for chance, row in rows if tuple(sorted(row[:len(lot)])) == lot)
                self.assertEqual(open_chance(yard, lot), plain.ratio(chance, 1))
            for number in plain.numbers(yard):
                chance = sum(chance for chance, row in rows if row[-1] == number) if good else None
                self.assertEqual(last_chance(yard, number), None if chance is None else plain.ratio(chance, 1))
            most = max([chances[order] for order in good], default=None)
            self.assertEqual([likeliest(yard)], [order for order in good if chances[order] == most][:1] or [None])


class WhyNot(unittest.TestCase):
    def test_orders_that_can_be_walked(self):
        self.assertEqual([why_not(EMPTY, ()), why_not(LINE, (1, 0)), why_not(STAR, (2, 0, 1))], [None, None, None])

    def test_others(self):
        self.assertEqual(why_not(BACK, (0, 1)), (1, (1, 2)))
        self.assertEqual(why_not(BACK, (1, 0)), (0, (2,)))
        # The rooms without walls are not come to either.
        self.assertEqual(why_not(GAPPY, (0, 1)), (1, (1, 2, 3, 4, 5)))
        self.assertEqual(why_not(FAR, (2, 1, 0)), (1, (2, 3, 4)))
        self.assertEqual(why_not(INWARD, (0,)), (0, (1,)))
        # The wall 1 stands behind, but one comes through its gap from the room 1 alone, so to 0 and 1 alone.
        self.assertEqual(why_not((4, ((0, 1, 0), (1, 2, 1), (2, 3, 0))), (2, 1, 0)), (1, (2, 3)))

    def test_wrong_orders(self):
        for order in ((0, 0), None, [0, 1], (0,), "01"):
            with self.assertRaises(BadOrder):
                why_not(LINE, order)

    def test_all_orders(self):
        for yard in small():
            for order in plain.every_order(yard):
                stuck = [place for place in range(len(order)) if not plain.set_from(yard, order, place)]
                if not stuck:
                    self.assertIsNone(why_not(yard, order))
                    self.assertIs(is_order(yard, order), True)
                    continue
                come = plain.come(yard, order[stuck[-1] + 1:])
                rooms = tuple(room for room in range(yard[0]) if room not in come)
                self.assertEqual(why_not(yard, order), (stuck[-1], rooms))


class SidesUsed(unittest.TestCase):
    def test_some(self):
        self.assertEqual([sides_used(EITHER, 0), sides_used(EITHER, 1)], [(0,), (1,)])
        self.assertEqual([sides_used(RING, number) for number in range(3)], [(0,), (2,), (0,)])
        self.assertEqual([sides_used(LONG_RING, 1), sides_used(LONG_RING, 2)], [(1, 2), (2, 3)])
        self.assertEqual([sides_used(FAR, 1), sides_used(INWARD, 0), sides_used(TWICE, 2), sides_used(TWICE, 1)],
                         [(), (), (0, 1), (1,)])

    def test_wrong_numbers(self):
        for number in (3, -1, True, None, "0", (0,), [0]):
            with self.assertRaises(BadWall):
                sides_used(RING, number)

    def test_all_walls(self):
        for yard in small():
            for number in plain.numbers(yard):
                come = plain.come(yard, [other for other in plain.numbers(yard) if other != number])
                self.assertEqual(sides_used(yard, number), tuple(sorted(plain.setting_rooms(yard[1][number]) & come)))


if __name__ == "__main__":
    unittest.main()
