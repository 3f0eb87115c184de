"""Points 7, 8 and 9: ways to walls, their times, and which are always ahead of which."""

import unittest
from unittest import mock

from tests import plain
from tests.samples import BACK, FAR, FULL, INWARD, LINE, LONG_RING, STAR, TWICE, few, small
from walledin import ways as ways_file
from walledin.errors import BadWall, BadYard, TooMany
from walledin.ways import (always_ahead, both_first, free_ones, gate_table, gates, greatest_back, hanging_on,
                           last_gate, least_back, places, shortest_way, ways)

LADDER = (5, ((0, 1, 0), (0, 1, 0), (1, 2, 0), (1, 2, 2), (2, 3, 0), (3, 4, 0)))


class Ways(unittest.TestCase):
    def test_two_gaps_between_the_same_rooms(self):
        self.assertEqual(ways(LADDER, 4), [(0, 2, 4), (0, 3, 4), (1, 2, 4), (1, 3, 4)])
        self.assertEqual(ways(TWICE, 1), [(0, 1), (2, 1)])
        self.assertEqual(shortest_way(LADDER, 5), (0, 2, 4, 5))

    def test_first_side_ends_the_way(self):
        self.assertEqual(ways(LONG_RING, 1), [(0, 1), (3, 2, 1)])
        self.assertEqual(ways(TWICE, 2), [(2,)])
        self.assertEqual(ways((3, ((0, 1, 0), (0, 2, 2), (1, 2, 2))), 1), [(1,)])

    def test_shorter_ways_first(self):
        yard = (4, ((0, 1, 0), (1, 2, 0), (2, 3, 0), (0, 2, 0), (0, 2, 0)))
        self.assertEqual(ways(yard, 2), [(3, 2), (4, 2), (0, 1, 2)])

    def test_walls_that_are_not_come_to(self):
        for yard, number in ((BACK, 1), (INWARD, 0), (FAR, 1), (FAR, 2)):
            self.assertEqual(ways(yard, number), [])
            self.assertIsNone(shortest_way(yard, number))

    def test_too_many_ways(self):
        self.assertEqual(ways_file.MOST_WAYS, 3000)
        # A way is a lot of other gaps, so the greatest yards have 2 ** 11 ways at most: look below that.
        with mock.patch.object(ways_file, "MOST_WAYS", 3):
            with self.assertRaises(TooMany) as caught:
                ways(LADDER, 4)
            self.assertEqual(caught.exception.most, 3)
            self.assertEqual(shortest_way(LADDER, 4), (0, 2, 4))
            self.assertEqual(gates(LADDER, 5), (4,))
            self.assertEqual(len(ways(LONG_RING, 1)), 2)
            with self.assertRaises(BadWall):
                ways(LADDER, 6)
            with self.assertRaises(BadYard):
                ways((4, 4), 4)
        with mock.patch.object(ways_file, "MOST_WAYS", 4):
            self.assertEqual(len(ways(LADDER, 4)), 4)

    def test_greatest_yards(self):
        yard = (5, ((0, 1, 0),) * 3 + ((1, 2, 0),) * 3 + ((2, 3, 0),) * 3 + ((3, 4, 0),) * 3)
        self.assertEqual(len(ways(yard, 9)), 27)
        self.assertEqual(ways(yard, 11)[0], (0, 3, 6, 11))
        self.assertEqual(ways(FULL, 8), [(0, 8), (1, 8)])

    def test_all_rows(self):
        for yard in small():
            for number in plain.numbers(yard):
                found = plain.ways(yard, number)
                self.assertEqual(ways(yard, number), found)
                self.assertEqual(shortest_way(yard, number), found[0] if found else None)


class Times(unittest.TestCase):
    def test_line(self):
        yard = (4, ((0, 1, 0), (1, 2, 0), (2, 3, 0), (0, 3, 1)))
        self.assertEqual([least_back(yard, number) for number in range(4)], [1, 2, 3, 4])
        self.assertEqual([greatest_back(yard, number) for number in range(4)], [1, 2, 3, 4])
        self.assertEqual([places(yard, number) for number in range(4)], [(3,), (2,), (1,), (0,)])

    def test_star(self):
        self.assertEqual([least_back(STAR, 1), greatest_back(STAR, 1), places(STAR, 1)], [1, 3, (0, 1, 2)])

    def test_walls_that_are_not_come_to(self):
        self.assertEqual([least_back(BACK, 0), greatest_back(BACK, 0), places(BACK, 0)], [1, 1, None])
        self.assertEqual([least_back(BACK, 1), greatest_back(BACK, 1), places(BACK, 1)], [None, None, None])

    def test_all_growths(self):
        for yard in small():
            found = plain.growths(yard)
            come = plain.come_to(yard)
            for number in plain.numbers(yard):
                times = {growth.index(number) + 1 for growth in found} if number in come else set()
                self.assertEqual(least_back(yard, number), min(times, default=None))
                self.assertEqual(greatest_back(yard, number), max(times, default=None))

    def test_all_orders(self):
        for yard in small():
            good = plain.good_orders(yard)
            for number in plain.numbers(yard):
                expected = tuple(sorted({order.index(number) for order in good})) if good else None
                self.assertEqual(places(yard, number), expected)


class Ahead(unittest.TestCase):
    def test_line(self):
        line = (4, ((0, 1, 0), (1, 2, 0), (2, 3, 0)))
        self.assertIs(always_ahead(line, 2, 0), False)
        self.assertIs(both_first(line, 0, 1), False)
        self.assertIs(both_first(line, 1, 0), False)
        self.assertEqual([gates(line, number) for number in range(3)], [(), (0,), (0, 1)])
        self.assertEqual([hanging_on(line, number) for number in range(3)], [(1, 2), (2,), ()])

    def test_gates_in_order_of_ways(self):
        yard = (4, ((2, 3, 0), (1, 2, 0), (0, 1, 0)))
        self.assertEqual(gates(yard, 0), (2, 1))
        self.assertEqual(last_gate(yard, 0), 1)
        self.assertEqual(gate_table(yard), (1, 2, None))
        self.assertEqual(hanging_on(yard, 2), (0, 1))
        self.assertEqual(gates(LADDER, 5), (4,))
        self.assertEqual(gates(LADDER, 4), ())

    def test_walls_that_are_not_come_to(self):
        self.assertEqual([gates(BACK, 1), last_gate(BACK, 1), gate_table(BACK)], [(), None, (None, None)])
        self.assertEqual([hanging_on(BACK, 0), hanging_on(BACK, 1), free_ones(BACK)], [(), (), (0,)])
        self.assertIs(always_ahead(BACK, 0, 1), False)
        self.assertIs(always_ahead(BACK, 1, 0), False)
        self.assertIs(both_first(BACK, 0, 1), False)
        self.assertIs(both_first(BACK, 1, 0), False)
        self.assertEqual(free_ones(INWARD), ())

    def test_without_walls(self):
        self.assertEqual([gate_table((3, ())), free_ones((1, ()))], [(), ()])

    def test_the_same_wall(self):
        for number in range(2):
            for function in (always_ahead, both_first):
                with self.assertRaises(BadWall):
                    function(LINE, number, number)

    def test_all_walls(self):
        for yard in small():
            come = plain.come_to(yard)
            table = {number: tuple(one for one in plain.numbers(yard) if one != number
                                   and plain.ahead(yard, one, number)) for number in plain.numbers(yard)}
            for number in plain.numbers(yard):
                rows = plain.ways(yard, number)
                for row in rows:
                    self.assertEqual(gates(yard, number), tuple(gap for gap in row if gap in table[number]))
                self.assertEqual(sorted(gates(yard, number)), sorted(table[number]))
                self.assertEqual(last_gate(yard, number), (gates(yard, number) or (None,))[-1])
                hanging = tuple(other for other in plain.numbers(yard) if number in table[other])
                self.assertEqual(hanging_on(yard, number), hanging)
                for other in plain.numbers(yard):
                    if other != number:
                        self.assertIs(always_ahead(yard, other, number), other in table[number])
                        both = {number, other} <= set(come)
                        both = both and other not in table[number] and number not in table[other]
                        self.assertIs(both_first(yard, number, other), both)
            self.assertEqual(gate_table(yard), tuple(last_gate(yard, number) for number in plain.numbers(yard)))
            free = tuple(number for number in come if not any(number in row for row in table.values()))
            self.assertEqual(free_ones(yard), free)

    def test_all_growths(self):
        for yard in few():
            found = plain.growths(yard)
            for number in plain.come_to(yard):
                for one in plain.come_to(yard):
                    if one != number:
                        always = all(growth.index(one) < growth.index(number) for growth in found)
                        self.assertIs(always_ahead(yard, one, number), always)


if __name__ == "__main__":
    unittest.main()
