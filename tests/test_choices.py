"""Points 24, 25 and 26: sides chosen, against all choices and all lots."""

import unittest
from fractions import Fraction

from tests import plain
from tests.samples import (BACK, DOUBLE, EITHER, EMPTY, FAR, FULL, GAPPY, INWARD, LINE, LONE_ROOMS, LONG_RING, RING,
                           STAR, TWICE, WIDE, chosen, few, small, tiny)
from walledin.choices import (chance_of_order, change_lots, choices, count_choices, count_holding, fewest_changes,
                              is_holding, sides_of_yard, turned, with_sides)
from walledin.errors import BadLot, BadNumber, BadSides, BadYard
from walledin.orders import has_order

CHANCES = [(0, 1), (1, 1), (1, 2), (1, 3), (5, 7), (999, 1000)]


class Sides(unittest.TestCase):
    def test_with_sides(self):
        self.assertEqual(with_sides(LINE, (2, 1)), (3, ((0, 1, 2), (1, 2, 1))))
        self.assertEqual([with_sides(EMPTY, ()), with_sides(LONE_ROOMS, ())], [EMPTY, LONE_ROOMS])
        for yard in small():
            self.assertEqual(with_sides(yard, sides_of_yard(yard)), yard)
            for sides in [(0,) * len(yard[1]), (1,) * len(yard[1]), (2,) * len(yard[1])]:
                self.assertEqual(with_sides(yard, sides), plain.sided(yard, sides))
                self.assertEqual(sides_of_yard(with_sides(yard, sides)), sides)

    def test_wrong_sides(self):
        for sides in ((), (0,), (0, 0, 0), (0, 3), (0, -1), (True, 0), (0, False), (0, None), ("0", 0), [0, 0], "00",
                      None, 0, {0: 0, 1: 0}, ((0, 0),)):
            with self.assertRaises(BadSides):
                with_sides(LINE, sides)
        with self.assertRaises(BadSides):
            with_sides(EMPTY, (0,))
        with self.assertRaises(BadYard):
            with_sides((3, ((0, 1),)), None)

    def test_sides_of_yard(self):
        self.assertEqual([sides_of_yard(EMPTY), sides_of_yard(RING), sides_of_yard(FAR)], [(), (0, 1, 2), (0, 2, 0)])

    def test_turned(self):
        # A wall that may be set from either side stays as it is.
        self.assertEqual(turned(RING, (0, 1, 2)), (3, ((0, 1, 1), (1, 2, 0), (0, 2, 2))))
        self.assertEqual([turned(RING, ()), turned(RING, (2,)), turned(EMPTY, ())], [RING, RING, EMPTY])
        for yard in small():
            for lot in plain.every_lot(yard):
                self.assertEqual(turned(yard, lot), plain.turned(yard, lot))
                self.assertEqual(turned(turned(yard, lot), lot), yard)
        for lot in ((1, 0), (3,), [0], None, (True,), 0):
            with self.assertRaises(BadLot):
                turned(RING, lot)


class Choices(unittest.TestCase):
    def test_without_walls(self):
        for yard in (EMPTY, LONE_ROOMS):
            self.assertEqual([choices(yard), count_choices(yard)], [[()], 1])

    def test_some(self):
        self.assertEqual(choices(RING), [(0, 0, 0), (0, 0, 1), (0, 1, 0), (1, 1, 0)])
        self.assertEqual([choices(INWARD), choices(GAPPY), choices(FAR)], [[(0,)], [(0, 0)], []])
        self.assertEqual([len(choices(TWICE)), count_choices(DOUBLE)], [7, 9])
        # The yard's own sides do not matter.
        self.assertEqual(choices(EITHER), [(0, 0)])

    def test_twelve_walls(self):
        found = choices(FULL)
        self.assertEqual([len(found), found], [count_choices(FULL), sorted(set(found))])
        self.assertEqual(sum(count_holding(FULL)), len(found))
        self.assertEqual(count_choices((2, ((0, 1, 2),) * 12)), 4095)

    def test_all_choices(self):
        for yard in tiny() + chosen(60, 4, 4, 21) + [DOUBLE, EITHER, WIDE, LONG_RING]:
            self.assertEqual(choices(yard), plain.good_choices(yard))
            self.assertEqual(count_choices(yard), len(plain.good_choices(yard)))


class Holding(unittest.TestCase):
    def test_without_walls(self):
        for yard in (EMPTY, LONE_ROOMS):
            self.assertEqual([is_holding(yard, ()), count_holding(yard)], [True, (1,)])

    def test_some(self):
        # Through gaps one walks from either side, and rooms without walls do not matter.
        self.assertEqual([is_holding(BACK, (0, 1)), is_holding(GAPPY, (0, 1)), is_holding(GAPPY, (1,))],
                         [True, True, False])
        self.assertEqual([count_holding(BACK), count_holding(GAPPY), count_holding(TWICE)],
                         [(0, 0, 1), (0, 0, 1), (0, 3, 3, 1)])
        # Rooms that hang together, but not with outside, do not hold a yard.
        self.assertEqual([count_holding(FAR), is_holding((3, ((1, 2, 2),)), (0,))], [(0, 0, 0, 0), False])
        self.assertEqual([count_holding(DOUBLE), is_holding(DOUBLE, (0, 1))], [(0, 0, 4, 4, 1), False])

    def test_wrong_lots(self):
        for lot in ((1, 0), (3,), [0], None, (True,), 0, (0, 0)):
            with self.assertRaises(BadLot):
                is_holding(RING, lot)

    def test_all_lots(self):
        for yard in small() + [DOUBLE, EITHER]:
            counts = [0] * (len(yard[1]) + 1)
            for lot in plain.every_lot(yard):
                self.assertIs(is_holding(yard, lot), plain.holds(yard, lot))
                counts[len(lot)] += plain.holds(yard, lot)
            self.assertEqual(count_holding(yard), tuple(counts))
            self.assertEqual(sum(count_holding(yard)), count_choices(yard))


class Chance(unittest.TestCase):
    def test_edges(self):
        for yard in (EMPTY, LONE_ROOMS):
            self.assertEqual([chance_of_order(yard, chance) for chance in CHANCES], [(1, 1)] * len(CHANCES))
        self.assertEqual([chance_of_order(LINE, chance) for chance in ((0, 1), (1, 1), (2, 3))],
                         [(0, 1), (1, 1), (4, 9)])
        self.assertEqual([chance_of_order(FAR, chance) for chance in CHANCES], [(0, 1)] * len(CHANCES))
        self.assertEqual([chance_of_order(TWICE, (1, 2)), chance_of_order(RING, (1, 2)), chance_of_order(RING, (2, 3))],
                         [(7, 8), (1, 2), (2, 3)])

    def test_wrong_chances(self):
        for chance in ((0, 2), (2, 2), (2, 4), (3, 2), (-1, 2), (1, 0), (0, 0), (1, -2), (0, -1), (True, 2), (0, True),
                       (1, "2"), (1, None), (1,), (1, 2, 3), [1, 2], "12", None, 1, {1: 1, 2: 2}, ((1, 2),)):
            for yard in (LINE, FAR, EMPTY):
                with self.assertRaises(BadNumber):
                    chance_of_order(yard, chance)
        with self.assertRaises(BadYard):
            chance_of_order((3, 0), (0, 2))

    def test_twelve_walls(self):
        self.assertEqual(chance_of_order((2, ((0, 1, 0),) * 12), (1, 2)), (4095, 4096))
        self.assertEqual(chance_of_order(FULL, (1, 2)), plain.ratio(count_choices(FULL), 4096))

    def test_all_choices(self):
        for yard in tiny() + chosen(60, 4, 4, 22) + [DOUBLE, EITHER]:
            for top, low in CHANCES:
                part = Fraction(top, low)
                chance = Fraction(0)
                for choice in plain.good_choices(yard):
                    chance += part ** choice.count(0) * (1 - part) ** choice.count(1)
                self.assertEqual(chance_of_order(yard, (top, low)), plain.ratio(chance, 1))


class Changes(unittest.TestCase):
    def test_nothing_to_change(self):
        for yard in (EMPTY, LONE_ROOMS, LINE, RING, GAPPY, FULL):
            self.assertEqual([fewest_changes(yard), change_lots(yard)], [0, [()]])

    def test_no_change_does(self):
        for yard in (FAR, (3, ((1, 2, 2),)), (9, ((7, 8, 0),) * 12)):
            self.assertEqual([fewest_changes(yard), change_lots(yard)], [None, []])

    def test_some(self):
        self.assertEqual([change_lots(INWARD), change_lots(BACK)], [[(0,)], [(1,)]])
        # A wall that may be set from either side is never turned.
        self.assertEqual(change_lots((4, ((0, 1, 1), (1, 2, 2), (0, 3, 1)))), [(0, 2)])
        self.assertEqual(change_lots((3, ((0, 1, 1), (0, 2, 1), (1, 2, 2)))), [(0,), (1,)])
        inwards = (9, tuple((0, room, 1) for room in range(1, 9)))
        self.assertEqual([fewest_changes(inwards), change_lots(inwards)], [8, [tuple(range(8))]])
        self.assertEqual(change_lots((2, ((0, 1, 1),) * 12)), [(number,) for number in range(12)])

    def test_all_lots(self):
        for yard in tiny() + few() + [DOUBLE, EITHER, STAR]:
            lots = [lot for lot in plain.every_lot(yard) if plain.has_walk(plain.turned(yard, lot))]
            least = [lot for lot in lots if len(lot) == len(lots[0])]
            self.assertEqual(change_lots(yard), least)
            self.assertEqual(fewest_changes(yard), len(least[0]) if least else None)
            for lot in least:
                self.assertIs(has_order(turned(yard, lot)), True)


if __name__ == "__main__":
    unittest.main()
