"""Point 19: ends of masons and teams, against masons who walk and against all orders."""

import unittest

from tests import plain
from tests.samples import (BACK, EMPTY, FAR, FULL, GAPPY, INWARD, LINE, LONE_ROOMS, RING, STAR, TWICE, chosen, few,
                           small, tiny)
from walledin.counts import count_orders
from walledin.errors import BadOrder, BadRoom, BadYard
from walledin.orders import has_order, is_order
from walledin.outsides import (count_team_orders, ends_of, fewest_masons, good_ends, has_order_at, has_team,
                               is_order_with, least_teams, team_can)

EITHER = (3, ((0, 1, 2), (1, 2, 2)))


def all_ends(yard):
    return plain.every_rooms(yard)[1:]


def backwards(yard, order, ends):
    """Whether, from its end, each wall may be set from a room that one comes to from one of the ends."""
    for place, number in enumerate(order):
        if not plain.setting_rooms(yard[1][number]) & plain.walk_on(yard, order[place + 1:], ends, True):
            return False
    return True


class OneMason(unittest.TestCase):
    def test_without_walls(self):
        self.assertEqual([ends_of(LONE_ROOMS, ()), good_ends(LONE_ROOMS)], [(0, 1, 2, 3), (0, 1, 2, 3)])
        self.assertEqual([ends_of(EMPTY, ()), good_ends(EMPTY), has_order_at(EMPTY, 0)], [(0,), (0,), True])
        self.assertEqual([is_order_with(LONE_ROOMS, (), (2,)), has_order_at(LONE_ROOMS, 3)], [True, True])

    def test_some(self):
        self.assertEqual([ends_of(LINE, (0, 1)), ends_of(LINE, (1, 0)), good_ends(LINE)], [(), (0,), (0,)])
        self.assertEqual([ends_of(EITHER, (0, 1)), ends_of(EITHER, (1, 0)), good_ends(EITHER)],
                         [(1, 2), (0, 1), (0, 1, 2)])
        self.assertEqual([ends_of(INWARD, (0,)), has_order_at(INWARD, 1), has_order_at(INWARD, 0)], [(1,), True, False])
        self.assertEqual([good_ends(FAR), good_ends(GAPPY), good_ends(TWICE)], [(), (0, 2), (0, 1)])

    def test_all_rooms_or_one_alone(self):
        self.assertEqual([is_order_with(EITHER, (0, 1), ends) for ends in ((0,), (1,), (2,), (0, 1, 2))],
                         [False, True, True, True])
        self.assertEqual([is_order_with(BACK, (0, 1), (0, 1, 2)), is_order_with(INWARD, (0,), (0, 1))], [False, True])

    def test_masons_who_walk(self):
        for yard in small():
            good = set()
            for order in plain.every_order(yard):
                ends = {end for room in range(yard[0]) for end in plain.mason_ends(yard, order, room)}
                self.assertEqual(ends_of(yard, order), tuple(sorted(ends)))
                self.assertIs(0 in ends_of(yard, order), is_order(yard, order))
                for rooms in all_ends(yard)[::3]:
                    self.assertIs(is_order_with(yard, order, rooms), bool(ends & set(rooms)))
                good |= ends
            self.assertEqual(good_ends(yard), tuple(sorted(good)))
            for room in range(yard[0]):
                self.assertIs(has_order_at(yard, room), room in good)

    def test_wrong_arguments(self):
        for ends in ((), [0], None, 0, (1, 0), (0, 0), (0, 3), (True,), ("0",), (0, None)):
            for function in (is_order_with, team_can):
                with self.assertRaises(BadRoom):
                    function(LINE, (1, 0), ends)
                with self.assertRaises(BadOrder):
                    function(LINE, (1, 1), ends)
                with self.assertRaises(BadYard):
                    function((3, 0), (1, 1), ends)
            for function in (has_team, count_team_orders, has_order_at):
                if ends != 0:
                    with self.assertRaises(BadRoom):
                        function(LINE, ends)
        for end in (-1, 3, True, None, "0", (0,), [0]):
            with self.assertRaises(BadRoom):
                has_order_at(LINE, end)


class Teams(unittest.TestCase):
    def test_without_walls(self):
        self.assertEqual([least_teams(EMPTY), fewest_masons(EMPTY)], [[(0,)], 1])
        self.assertEqual([least_teams(LONE_ROOMS), fewest_masons(LONE_ROOMS)], [[(0,), (1,), (2,), (3,)], 1])
        self.assertEqual([team_can(LONE_ROOMS, (), (1, 3)), has_team(LONE_ROOMS, (2,)),
                          count_team_orders(LONE_ROOMS, (0, 1, 2, 3))], [True, True, 1])

    def test_some(self):
        self.assertEqual([least_teams(FAR), fewest_masons(FAR)], [[(0, 2), (0, 3)], 2])
        self.assertEqual([least_teams(INWARD), has_team(INWARD, (0,)), has_team(INWARD, (0, 1))], [[(1,)], False, True])
        self.assertEqual([team_can(LINE, (0, 1), (0,)), team_can(LINE, (0, 1), (1,)), team_can(LINE, (0, 1), (0, 1))],
                         [False, False, True])
        self.assertEqual([count_team_orders(STAR, (0,)), count_team_orders(STAR, (1, 2, 3)),
                          count_team_orders(STAR, (0, 1, 2, 3))], [6, 0, 6])
        inwards = (9, tuple((0, room, 1) for room in range(1, 9)))
        self.assertEqual([least_teams(inwards), fewest_masons(inwards)], [[(1, 2, 3, 4, 5, 6, 7, 8)], 8])

    def test_twelve_walls(self):
        self.assertEqual([good_ends(FULL), least_teams(FULL), fewest_masons(FULL)], [(0,), [(0,)], 1])
        self.assertEqual(count_team_orders(FULL, (0,)), count_orders(FULL))
        self.assertEqual(count_team_orders((9, ((0, 1, 2),) * 12), (1,)), 479001600)

    def test_masons_who_walk(self):
        for yard in tiny()[::4] + chosen(25, 4, 3, 11) + chosen(15, 4, 4, 12):
            for order in plain.every_order(yard)[::2]:
                found = {many: plain.team_ends(yard, order, many) for many in range(1, yard[0] + 1)}
                for ends in all_ends(yard):
                    self.assertIs(team_can(yard, order, ends), ends in found[len(ends)])

    def test_all_orders(self):
        for yard in few():
            teams = []
            for ends in all_ends(yard):
                if yard[0] > 6 and len(ends) not in (1, 2, 9):
                    continue
                good = [order for order in plain.every_order(yard) if backwards(yard, order, ends)]
                for order in plain.every_order(yard)[::5]:
                    self.assertIs(team_can(yard, order, ends), order in good)
                self.assertIs(has_team(yard, ends), bool(good))
                self.assertEqual(count_team_orders(yard, ends), len(good))
                if good:
                    teams.append(ends)
            least = [ends for ends in teams if len(ends) == min(map(len, teams))]
            self.assertEqual(fewest_masons(yard), len(least[0]))
            self.assertEqual(least_teams(yard), sorted(least))

    def test_outside_alone(self):
        for yard in small():
            self.assertIs(has_team(yard, (0,)), has_order(yard))
            self.assertEqual(count_team_orders(yard, (0,)), count_orders(yard))

    def test_ring(self):
        self.assertEqual([least_teams(RING), count_team_orders(RING, (2,)), count_team_orders(RING, (1,))],
                         [[(0,), (2,)], 3, 0])


if __name__ == "__main__":
    unittest.main()
