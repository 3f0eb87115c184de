"""Point 16: plans, against all rows of lots."""

import unittest

from tests import plain
from tests.samples import (BACK, EMPTY, FAR, FULL, GAPPY, INWARD, LINE, LONE_ROOMS, RING, STAR, TWICE, WIDE, few, small,
                           trees)
from walledin.days import fewest_days, is_plan, late_plan, masons_for, room_depths, tree_days, widest
from walledin.errors import BadNumber, NotTree

WIDE_STAR = (9, tuple((0, room, 0) for room in (1, 2, 3, 4, 5, 6, 7, 8, 1, 2, 3, 4)))
FORK = (6, ((0, 1, 0), (1, 2, 0), (1, 3, 2), (3, 4, 0), (0, 5, 0)))


class Plans(unittest.TestCase):
    def test_without_walls(self):
        for yard in (EMPTY, LONE_ROOMS):
            self.assertEqual([is_plan(yard, ()), is_plan(yard, ((),))], [True, False])
            self.assertEqual([fewest_days(yard, masons) for masons in (1, 12)], [0, 0])
            self.assertEqual([masons_for(yard, days) for days in (0, 12)], [1, 1])
            self.assertEqual([late_plan(yard), tree_days(yard, 1), widest(yard)], [(), 0, 0])

    def test_any_value_as_days(self):
        self.assertIs(is_plan(STAR, ((1,), (0, 2))), True)
        for days in (None, True, 0, "", "012", [], {}, (), (0, 1, 2), [(0, 1, 2)], [[0, 1, 2]], ([0, 1, 2],),
                     ((0, 1, 2), ()), ((), (0, 1, 2)), ((0,), (), (1, 2)), ((0, 1),), ((0, 1), (2,), (2,)),
                     ((0, 1), (1, 2)), ((2, 0, 1),), ((0, 0, 1, 2),), ((0, True, 2),), ((False, 1, 2),), ((0, 1, 3),),
                     ((0, 1, 2, 3),), ((-1, 0, 1, 2),), ((0, 1), 2), ((0, 1), None), ((0, 1), "2"), ((0, 1), {2: 2}),
                     (((0, 1, 2),),), ((0, 1, (2,)),), ((0, 1, None),), {(0, 1, 2): 0}):
            self.assertIs(is_plan(STAR, days), False, days)

    def test_walls_of_one_day(self):
        # On one day both walls of a line cannot be set: the gap of the one is needed for the other one.
        self.assertEqual([is_plan(LINE, days) for days in (((0, 1),), ((1,), (0,)), ((0,), (1,)))],
                         [False, True, False])
        self.assertEqual([is_plan(TWICE, days) for days in (((0, 1, 2),), ((1,), (0, 2)), ((0, 1), (2,)))],
                         [False, True, True])

    def test_all_plans(self):
        for yard in small():
            found = plain.plans(yard)
            for days in plain.every_days(tuple(plain.numbers(yard))):
                self.assertIs(is_plan(yard, days), days in found)

    def test_no_plan(self):
        for yard in (BACK, FAR, INWARD):
            self.assertEqual([fewest_days(yard, masons) for masons in (1, 12)], [None, None])
            self.assertEqual([masons_for(yard, days) for days in (0, 12)], [None, None])
            self.assertIsNone(late_plan(yard))

    def test_edges_of_masons_and_days(self):
        self.assertEqual([fewest_days(STAR, masons) for masons in (1, 2, 3, 12)], [3, 2, 1, 1])
        self.assertEqual([masons_for(STAR, days) for days in (0, 1, 2, 3, 12)], [None, 3, 2, 1, 1])
        self.assertEqual([masons_for(LINE, days) for days in (0, 1, 2, 12)], [None, None, 1, 1])
        for number in (-1, 13, 10 ** 40, True, False, None, "1", (1,), [1]):
            for yard in (EMPTY, BACK, STAR):
                with self.assertRaises(BadNumber):
                    fewest_days(yard, number)
                with self.assertRaises(BadNumber):
                    masons_for(yard, number)
        with self.assertRaises(BadNumber):
            fewest_days(STAR, 0)

    def test_twelve_walls(self):
        self.assertEqual([fewest_days(WIDE_STAR, masons) for masons in range(1, 13)],
                         [12, 6, 4, 3, 3, 2, 2, 2, 2, 2, 2, 1])
        self.assertEqual([masons_for(WIDE_STAR, days) for days in (1, 2, 3, 4, 5, 6, 11, 12)], [12, 6, 4, 3, 3, 2, 2, 1])
        self.assertEqual([fewest_days(FULL, 12), fewest_days(FULL, 5), late_plan(FULL)],
                         [2, 3, ((8, 9, 10, 11), (0, 1, 2, 3, 4, 5, 6, 7))])

    def test_fewest_over_all_plans(self):
        for yard in few():
            found = plain.plans(yard)
            for masons in (1, 2, 3, 4, 5, 12):
                sizes = [len(days) for days in found if max(map(len, days), default=0) <= masons]
                self.assertEqual(fewest_days(yard, masons), min(sizes, default=None))
            for days in (0, 1, 2, 3, 4, 5, 12):
                needs = [max(map(len, plan), default=1) for plan in found if len(plan) <= days]
                self.assertEqual(masons_for(yard, days), min(needs, default=None))


class LatePlans(unittest.TestCase):
    def test_some(self):
        self.assertEqual(late_plan(LINE), ((1,), (0,)))
        self.assertEqual(late_plan(RING), ((1,), (0, 2)))
        self.assertEqual(late_plan(FORK), ((3,), (1, 2), (0, 4)))

    def test_least_numbers(self):
        for yard in small():
            good = plain.good_orders(yard)
            plan = late_plan(yard)
            if not good:
                self.assertIsNone(plan)
                continue
            self.assertTrue(all(plan))
            self.assertIs(is_plan(yard, plan), True)
            for number in plain.numbers(yard):
                least = len(yard[1]) - max(order.index(number) for order in good)
                self.assertIn(number, plan[len(plan) - least])


class Trees(unittest.TestCase):
    def test_other_yards(self):
        for masons in (1, 0, None):
            for yard in (RING, BACK, TWICE, FAR):
                with self.assertRaises(NotTree):
                    tree_days(yard, masons)
        for masons in (0, 13, True, None):
            with self.assertRaises(BadNumber):
                tree_days(STAR, masons)

    def test_some(self):
        self.assertEqual([tree_days(FORK, masons) for masons in (1, 2, 3, 12)], [5, 3, 3, 3])

    def test_deep_walls(self):
        for yard in [STAR, LINE, GAPPY, FORK] + trees(60, 7, 10):
            depths = room_depths(yard)
            deep = [max(depths[low], depths[high]) for low, high, _ in yard[1]]
            for masons in (1, 2, 3, 12):
                # T. Hu's words in the document: each wall lies as many gaps deep as its farther room.
                most = max((k + -(-sum(one > k for one in deep) // masons) for k in range(9)
                            if any(one > k for one in deep)), default=0)
                self.assertEqual(tree_days(yard, masons), most)
                self.assertEqual(tree_days(yard, masons), fewest_days(yard, masons))


class WidthsAndDepths(unittest.TestCase):
    def test_some(self):
        self.assertEqual([widest(yard) for yard in (LINE, RING, TWICE, INWARD, WIDE_STAR, FULL)], [1, 2, 2, 0, 12, 8])
        self.assertEqual(room_depths(GAPPY), (0, None, 1, None, None, 2))
        self.assertEqual(room_depths(WIDE), (0, 2, 2, None, None, None, None, 1, 1))
        self.assertEqual([room_depths(EMPTY), room_depths(INWARD), room_depths(BACK)], [(0,), (0, None), (0, 1, None)])
        self.assertEqual(room_depths((4, ((0, 1, 0), (1, 2, 2), (0, 3, 0), (2, 3, 1), (0, 2, 1)))), (0, 1, 2, 1))

    def test_all_open_lots(self):
        for yard in small():
            good = plain.good_lots(yard)
            most = max(sum(tuple(sorted(lot + (number,))) in good for number in plain.numbers(yard)
                           if number not in lot) for lot in good)
            self.assertEqual(widest(yard), most)

    def test_all_depths(self):
        for yard in small():
            for room, depth in enumerate(room_depths(yard)):
                counts = [len(lot) for lot in plain.every_lot(yard) if room in plain.come(yard, lot)]
                self.assertEqual(depth, min(counts, default=None))


if __name__ == "__main__":
    unittest.main()
