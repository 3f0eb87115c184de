"""Point 11: yards that leave the same orders, and yards with other sides, more walls or fewer."""

import unittest
from itertools import combinations_with_replacement

from tests import plain
from tests.samples import (BACK, EMPTY, FAR, FULL, INWARD, LINE, LONE_ROOMS, RING, STAR, TWICE, all_walls, chosen, few,
                           small, tiny)
from walledin.errors import BadNumber, BadWalls, BadYard, TooMany
from walledin.sameness import (added, fewest_added, least_added, loose, orders_lost, orders_without, same_orders,
                               taken_out, tight)


class SameOrders(unittest.TestCase):
    def test_some(self):
        self.assertIs(same_orders(LINE, LINE), True)
        self.assertIs(same_orders(EMPTY, LONE_ROOMS), True)
        self.assertIs(same_orders(EMPTY, INWARD), False)
        self.assertIs(same_orders(LINE, (3, ((1, 2, 0), (0, 1, 0)))), False)
        self.assertIs(same_orders(LINE, (9, ((0, 5, 2), (5, 8, 0)))), True)

    def test_no_orders(self):
        self.assertIs(same_orders(BACK, (3, ((1, 2, 0), (1, 2, 1)))), True)
        self.assertIs(same_orders(BACK, INWARD), False)
        self.assertIs(same_orders(BACK, LINE), False)
        self.assertIs(same_orders(LINE, BACK), False)

    def test_first_wrong_yard(self):
        for one, other, index in (((1, None), (2, (None,)), None), ((2, (None,)), (1, None), 0), (LINE, (1, 1), None)):
            with self.assertRaises(BadYard) as caught:
                same_orders(one, other)
            self.assertEqual(caught.exception.index, index)

    def test_all_orders(self):
        yards = tiny()[::4] + chosen(40, 3, 3, 5) + chosen(20, 4, 4, 6)
        rows = [(yard, len(yard[1]), plain.good_orders(yard)) for yard in yards]
        for one, many, orders in rows:
            for other, others, found in rows:
                self.assertIs(same_orders(one, other), many == others and orders == found)


class OrdersLost(unittest.TestCase):
    def test_some(self):
        self.assertEqual([orders_lost(LINE, 1, 0), orders_lost(LINE, 1, 1)], [0, 1])
        self.assertEqual([orders_lost(INWARD, 0, 0), orders_lost(INWARD, 0, 1)], [0, 1])
        self.assertEqual(orders_lost(FAR, 1, 0), 0)
        self.assertEqual(orders_lost(TWICE, 2, 1), 2)

    def test_wrong_sides(self):
        for side in (2, -1, True, False, None, "0", (0,)):
            with self.assertRaises(BadNumber):
                orders_lost(LINE, 0, side)

    def test_all_orders(self):
        for yard in few():
            for number in plain.numbers(yard):
                most = len(plain.good_orders(plain.with_side(yard, number, 2)))
                for side in (0, 1):
                    left = len(plain.good_orders(plain.with_side(yard, number, side)))
                    self.assertEqual(orders_lost(yard, number, side), most - left)


class TightAndLoose(unittest.TestCase):
    def test_some(self):
        self.assertEqual(tight(EMPTY), EMPTY)
        self.assertEqual(loose(LONE_ROOMS), LONE_ROOMS)
        self.assertEqual(tight((3, ((0, 1, 1), (1, 2, 2)))), (3, ((0, 1, 1), (1, 2, 0))))
        self.assertEqual(tight((3, ((0, 2, 0), (1, 2, 2)))), (3, ((0, 2, 0), (1, 2, 1))))
        self.assertEqual(tight((3, ((0, 1, 0), (0, 2, 0), (1, 2, 2))))[1][2], (1, 2, 2))
        self.assertEqual(loose(BACK), (3, ((0, 1, 2), (1, 2, 1))))
        self.assertEqual(loose(INWARD), INWARD)

    def test_walls_in_order(self):
        # If one of the two walls between the rooms 1 and 2 has a side, the other one's may matter no more.
        yard = (3, ((1, 2, 2), (1, 2, 2), (0, 2, 2)))
        self.assertEqual(tight(yard), plain_tight(yard))
        self.assertEqual(loose(yard), yard)

    def test_twelve_walls(self):
        self.assertEqual(tight(FULL)[1][:8], FULL[1][:8])
        self.assertEqual(loose(FULL)[1][:8], tuple((0, room, 2) for room in range(1, 9)))

    def test_all_open_lots(self):
        for yard in small():
            self.assertEqual(tight(yard), plain_tight(yard))
            self.assertEqual(loose(yard), plain_loose(yard))


class MoreAndFewerWalls(unittest.TestCase):
    def test_added(self):
        self.assertEqual(added(LINE, ()), LINE)
        self.assertEqual(added(FULL, ()), FULL)
        self.assertEqual(added(LONE_ROOMS, ((0, 3, 2), (1, 2, 0))), (4, ((0, 3, 2), (1, 2, 0))))
        self.assertEqual(len(added(STAR, ((0, 1, 0),) * 9)[1]), 12)

    def test_too_many(self):
        for yard, walls in ((STAR, ((0, 1, 0),) * 10), (FULL, ((0, 1, 0),)), ((2, ()), ((0, 1, 0),) * 13)):
            with self.assertRaises(TooMany) as caught:
                added(yard, walls)
            self.assertEqual(caught.exception.most, 12)

    def test_too_many_comes_behind_all_arguments(self):
        with self.assertRaises(BadWalls):
            added(FULL, ((0, 1, 0),) * 12 + ((0, 9, 0),))
        with self.assertRaises(BadYard) as caught:
            added((2, ((0, 1, 0), (0, 2, 0))), ((0, 1, 0),) * 13)
        self.assertEqual(caught.exception.index, 1)

    def test_added_walls_are_between_rooms_of_the_yard(self):
        for walls in (((0, 3, 0),), ((0, 1, 0), (2, 1, 0)), ((0, 1, 3),), [(0, 1, 0)], ((0, 1),), (0, 1, 0), None):
            with self.assertRaises(BadWalls):
                added(LINE, walls)

    def test_taken_out(self):
        self.assertEqual(taken_out(RING, 1), (3, ((0, 1, 0), (0, 2, 2))))
        self.assertEqual(taken_out(INWARD, 0), (2, ()))
        self.assertEqual([orders_without(INWARD, 0), orders_without(BACK, 1), orders_without(STAR, 2)], [1, 1, 2])

    def test_orders_without(self):
        for yard in few():
            for number in plain.numbers(yard):
                rest = plain.only(yard, tuple(other for other in plain.numbers(yard) if other != number))
                self.assertEqual(taken_out(yard, number), rest)
                self.assertEqual(orders_without(yard, number), len(plain.good_orders(rest)))

    def test_fewest_added(self):
        for yard in (EMPTY, LINE, RING, FULL):
            self.assertEqual([fewest_added(yard), least_added(yard)], [0, ()])
        self.assertEqual(least_added(FAR), ((0, 2, 0),))
        self.assertEqual(least_added((6, ((1, 2, 2), (3, 4, 1), (0, 5, 1)))), ((0, 1, 0), (0, 4, 0), (0, 5, 0)))
        many = (9, tuple((0, room, 1) for room in range(1, 9)))
        self.assertEqual([fewest_added(many), len(least_added(many))], [8, 8])
        twelve = (3, ((1, 2, 2),) * 12)
        self.assertEqual([fewest_added(twelve), least_added(twelve)], [1, ((0, 1, 0),)])

    def test_least_added_stand_in_order(self):
        # The least traps are (3,) and (1, 2): by their rooms the walls stand the other way round.
        self.assertEqual(least_added((4, ((1, 2, 2), (0, 3, 1)))), ((0, 1, 0), (0, 3, 0)))

    def test_no_fewer_do(self):
        for yard in small()[::2]:
            least = least_added(yard)
            self.assertEqual(fewest_added(yard), len(least))
            self.assertTrue(opens_with(yard, least))
            if least and len(least) < 4:
                for walls in combinations_with_replacement(all_walls(yard[0]), len(least) - 1):
                    self.assertFalse(opens_with(yard, walls))


def opens_with(yard, walls):
    more = (yard[0], yard[1] + tuple(walls))
    return plain.opens(more, tuple(plain.numbers(more)))


def plain_tight(yard):
    good = plain.good_lots(yard)
    for number in plain.numbers(yard):
        if yard[1][number][2] == 2:
            same = [side for side in (0, 1) if plain.good_lots(plain.with_side(yard, number, side)) == good]
            if same:
                yard = plain.with_side(yard, number, same[0])
    return yard


def plain_loose(yard):
    good = plain.good_lots(yard)
    for number in plain.numbers(yard):
        if plain.good_lots(plain.with_side(yard, number, 2)) == good:
            yard = plain.with_side(yard, number, 2)
    return yard


if __name__ == "__main__":
    unittest.main()
