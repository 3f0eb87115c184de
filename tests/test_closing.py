"""Points 27 and 28: rooms that are cut off, against all orders, and what lies on all ways to a room."""

import unittest

from tests import plain
from tests.samples import (BACK, DOUBLE, EITHER, EMPTY, FAR, FULL, GAPPY, INWARD, LINE, LONE_ROOMS, LONG_RING, RING,
                           STAR, TWICE, WIDE, small)
from walledin.closing import (cut_off, cut_times, cut_together, greatest_cut, last_cut, least_cut, never_joined,
                              room_gates, rooms_between)
from walledin.errors import BadOrder, BadRoom, BadYard

WIDE_STAR = (9, tuple((0, room, 0) for room in (1, 2, 3, 4, 5, 6, 7, 8, 1, 2, 3, 4)))
NO_INNER_ROOMS = (0, -1, 9, True, False, None, "1", (1,), [1], 10 ** 40)


class OneOrder(unittest.TestCase):
    def test_without_walls(self):
        self.assertEqual([cut_times(EMPTY, ()), cut_times(LONE_ROOMS, ()), cut_off(LONE_ROOMS, (), 3)],
                         [(), (0, 0, 0), 0])
        self.assertEqual([last_cut(EMPTY, ()), last_cut(LONE_ROOMS, ())], [(), (1, 2, 3)])

    def test_orders_that_cannot_be_walked(self):
        self.assertEqual([cut_times(LINE, (0, 1)), cut_times(BACK, (1, 0)), cut_times(INWARD, (0,))],
                         [(1, 1), (2, 1), (1,)])
        self.assertEqual([last_cut(LINE, (0, 1)), last_cut(BACK, (1, 0)), last_cut(INWARD, (0,))], [None] * 3)
        # The rooms 2, 3 and 4 never are joined to outside.
        self.assertEqual([cut_times(FAR, (0, 1, 2)), cut_times(FAR, (2, 1, 0))], [(1, 0, 0, 0), (3, 0, 0, 0)])

    def test_some(self):
        self.assertEqual([cut_times(STAR, (2, 0, 1)), last_cut(STAR, (2, 0, 1))], [(2, 3, 1), (2,)])
        self.assertEqual([cut_times(DOUBLE, (1, 0, 2, 3)), last_cut(DOUBLE, (1, 0, 2, 3))], [(4, 2, 0), (1,)])
        self.assertEqual([cut_times(GAPPY, (1, 0)), last_cut(GAPPY, (1, 0))], [(0, 2, 0, 0, 1), (2,)])
        self.assertEqual([cut_off(GAPPY, (1, 0), room) for room in range(1, 6)], [0, 2, 0, 0, 1])

    def test_wrong_arguments(self):
        for room in NO_INNER_ROOMS:
            with self.assertRaises(BadRoom):
                cut_off(LINE, (0, 1), room)
            with self.assertRaises(BadRoom):
                cut_off(EMPTY, (), room)
            with self.assertRaises(BadOrder):
                cut_off(LINE, (0, 0), room)
            with self.assertRaises(BadYard):
                cut_off((3, 0), (0, 0), room)
        for function in (cut_times, last_cut):
            for order in ((0,), (0, 0), None, [0, 1], "01"):
                with self.assertRaises(BadOrder):
                    function(LINE, order)

    def test_all_orders(self):
        for yard in small() + [DOUBLE, EITHER]:
            for order in plain.every_order(yard):
                times = tuple(plain.cut_off(yard, order, room) for room in range(1, yard[0]))
                self.assertEqual(cut_times(yard, order), times)
                if yard[0] > 1:
                    self.assertEqual(cut_off(yard, order, yard[0] - 1), times[-1])
                expected = None
                if plain.walks(yard, order):
                    expected = tuple(room for room in range(1, yard[0]) if times[room - 1] == max(times))
                self.assertEqual(last_cut(yard, order), expected)


class AllOrders(unittest.TestCase):
    def test_without_walls(self):
        self.assertEqual([least_cut(LONE_ROOMS, 1), greatest_cut(LONE_ROOMS, 3)], [0, 0])
        self.assertEqual([cut_together(LONE_ROOMS, 1, 2), cut_together(LONE_ROOMS, 2, 2)], [True, True])
        self.assertEqual([never_joined(EMPTY), never_joined(LONE_ROOMS)], [(), (1, 2, 3)])

    def test_no_order(self):
        for yard in (BACK, FAR, INWARD):
            for room in range(1, yard[0]):
                self.assertEqual([least_cut(yard, room), greatest_cut(yard, room), cut_together(yard, room, room)],
                                 [None, None, None])
        self.assertEqual([never_joined(BACK), never_joined(FAR), never_joined(INWARD)], [(), (2, 3, 4), ()])

    def test_some(self):
        self.assertEqual([(least_cut(STAR, room), greatest_cut(STAR, room)) for room in (1, 2, 3)], [(1, 3)] * 3)
        self.assertEqual([(least_cut(GAPPY, room), greatest_cut(GAPPY, room)) for room in range(1, 6)],
                         [(0, 0), (2, 2), (0, 0), (0, 0), (1, 1)])
        self.assertEqual([(least_cut(LONG_RING, room), greatest_cut(LONG_RING, room)) for room in (1, 2, 3)],
                         [(2, 4), (2, 3), (2, 4)])
        self.assertEqual([cut_together(GAPPY, 1, 3), cut_together(GAPPY, 1, 5), cut_together(GAPPY, 2, 5),
                          cut_together(GAPPY, 5, 5)], [True, False, False, True])
        self.assertEqual([(least_cut(TWICE, 1), greatest_cut(TWICE, 1)), never_joined(GAPPY)], [(3, 3), (1, 3, 4)])

    def test_twelve_walls(self):
        self.assertEqual([(least_cut(WIDE_STAR, room), greatest_cut(WIDE_STAR, room)) for room in (1, 8)],
                         [(2, 12), (1, 12)])
        self.assertEqual([cut_together(WIDE_STAR, 1, 8), never_joined(WIDE_STAR)], [False, ()])
        self.assertEqual([least_cut(FULL, 8), greatest_cut(FULL, 8)], [2, 12])

    def test_wrong_rooms(self):
        for room in NO_INNER_ROOMS:
            for yard in (LINE, BACK, (9, ()), EMPTY):
                for function in (least_cut, greatest_cut):
                    with self.assertRaises(BadRoom):
                        function(yard, room)
                with self.assertRaises(BadRoom):
                    cut_together(yard, room, 1)
            with self.assertRaises(BadRoom):
                cut_together(LINE, 1, room)

    def test_all_orders(self):
        for yard in small() + [DOUBLE, EITHER, WIDE]:
            joined = plain.joined(yard, plain.numbers(yard))
            self.assertEqual(never_joined(yard), tuple(room for room in range(yard[0]) if room not in joined))
            rows = [[plain.cut_off(yard, order, room) for order in plain.good_orders(yard)]
                    for room in range(1, yard[0])]
            for room, row in enumerate(rows, start=1):
                self.assertEqual([least_cut(yard, room), greatest_cut(yard, room)],
                                 [min(row, default=None), max(row, default=None)])
                for other, behind in enumerate(rows, start=1):
                    self.assertIs(cut_together(yard, room, other), row == behind if row else None)


class Gates(unittest.TestCase):
    def test_some(self):
        self.assertEqual([room_gates(LINE, 1), rooms_between(LINE, 1), room_gates(LINE, 2)], [(0,), (), (0, 1)])
        self.assertEqual([(room_gates(RING, room), rooms_between(RING, room)) for room in (1, 2)],
                         [((), ()), ((2,), ())])
        # Two gaps between the same rooms: the room between is on all ways, none of the two gaps is.
        self.assertEqual([room_gates(DOUBLE, 1), room_gates(DOUBLE, 2), rooms_between(DOUBLE, 2)], [(), (0,), (1,)])
        twice = (3, ((0, 2, 0), (0, 2, 0), (1, 2, 2)))
        self.assertEqual([room_gates(twice, 1), rooms_between(twice, 1)], [(2,), (2,)])

    def test_rooms_that_are_not_come_to(self):
        for yard, room in ((LONE_ROOMS, 1), (BACK, 2), (FAR, 2), (FAR, 4), (GAPPY, 1), (INWARD, 1)):
            self.assertEqual([room_gates(yard, room), rooms_between(yard, room)], [None, None])
        self.assertEqual([room_gates(BACK, 1), rooms_between(FAR, 1)], [(0,), ()])

    def test_wrong_rooms(self):
        for room in NO_INNER_ROOMS:
            for yard in (LINE, BACK, EMPTY):
                for function in (room_gates, rooms_between):
                    with self.assertRaises(BadRoom):
                        function(yard, room)

    def test_long_line(self):
        line = (9, tuple((room, room + 1, 0) for room in range(8)))
        self.assertEqual([room_gates(line, 8), rooms_between(line, 8)], [tuple(range(8)), tuple(range(1, 8))])

    def test_all_ways(self):
        for yard in small() + [DOUBLE, EITHER, FULL]:
            for room in range(1, yard[0]):
                found = plain.told_ways(yard, room)
                if not found:
                    self.assertEqual([room_gates(yard, room), rooms_between(yard, room)], [None, None])
                    continue
                gaps = set(plain.numbers(yard)).intersection(*[gaps for gaps, _ in found])
                rooms = set(range(yard[0])).intersection(*[rooms for _, rooms in found]) - {0, room}
                self.assertEqual(room_gates(yard, room), tuple(sorted(gaps)))
                self.assertEqual(rooms_between(yard, room), tuple(sorted(rooms)))


if __name__ == "__main__":
    unittest.main()
