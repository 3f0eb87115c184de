"""Point 5: open lots, against all lots."""

import unittest

from tests import plain
from tests.samples import BACK, EMPTY, FAR, FULL, LINE, RING, STAR, TWICE, small
from walledin.lots import all_gaps, can_come, can_go, count_open, heart, is_open, only_open, open_lots


class OpenLots(unittest.TestCase):
    def test_without_walls(self):
        self.assertEqual(open_lots(EMPTY), [()])
        self.assertEqual(count_open(EMPTY), (1,))
        self.assertEqual(all_gaps(EMPTY), ())
        self.assertEqual([can_go(EMPTY, ()), can_come(EMPTY, ())], [(), ()])
        self.assertEqual(only_open(EMPTY, ()), EMPTY)

    def test_empty_lot(self):
        for yard in (LINE, RING, STAR, FAR):
            self.assertIs(is_open(yard, ()), True)
            self.assertEqual(heart(yard, ()), ())
            self.assertEqual(can_go(yard, ()), ())
        self.assertEqual(can_come(RING, ()), (0, 2))

    def test_lots_that_are_not_open(self):
        self.assertIs(is_open(LINE, (1,)), False)
        self.assertIsNone(can_go(LINE, (1,)))
        self.assertIsNone(can_come(LINE, (1,)))
        self.assertEqual(heart(FAR, (0, 1, 2)), (0,))
        self.assertEqual(only_open(FAR, (1, 2)), (5, ((2, 3, 2), (3, 4, 0))))

    def test_walls_that_are_not_come_to(self):
        self.assertEqual(all_gaps(BACK), (0,))
        self.assertEqual(count_open(BACK), (1, 1, 0))
        self.assertEqual(count_open(FAR), (1, 1, 0, 0))
        self.assertEqual(can_come(BACK, (0,)), ())

    def test_shorter_lots_first(self):
        self.assertEqual(open_lots(STAR), [(), (0,), (1,), (2,), (0, 1), (0, 2), (1, 2), (0, 1, 2)])
        self.assertEqual(open_lots(TWICE), [(), (0,), (2,), (0, 1), (0, 2), (1, 2), (0, 1, 2)])

    def test_twelve_walls(self):
        star = (9, tuple((0, room, 0) for room in (1, 2, 3, 4, 5, 6, 7, 8, 1, 2, 3, 4)))
        self.assertEqual(count_open(star), (1, 12, 66, 220, 495, 792, 924, 792, 495, 220, 66, 12, 1))
        self.assertEqual(len(open_lots(FULL)), len(plain.good_lots(FULL)))
        self.assertEqual(open_lots(FULL), plain.good_lots(FULL))

    def test_open_at_some_time(self):
        for yard in small()[::3]:
            seen = set()
            for lot in plain.good_lots(yard):
                for order in plain.good_orders(plain.only(yard, lot)):
                    seen.update(tuple(sorted(lot[at] for at in order[place:])) for place in range(len(order) + 1))
            self.assertEqual(set(open_lots(yard)), seen)

    def test_all_lots(self):
        for yard in small():
            good = plain.good_lots(yard)
            self.assertEqual(open_lots(yard), good)
            sizes = range(len(yard[1]) + 1)
            self.assertEqual(count_open(yard), tuple(sum(len(lot) == size for lot in good) for size in sizes))
            self.assertEqual(all_gaps(yard), good[-1])
            for lot in plain.every_lot(yard):
                self.assertIs(is_open(yard, lot), lot in good)
                self.assertEqual(only_open(yard, lot), plain.only(yard, lot))
                within = [part for part in good if set(part) <= set(lot)]
                self.assertEqual(heart(yard, lot), within[-1])
                self.assertTrue(all(set(part) <= set(within[-1]) for part in within))

    def test_going_and_coming(self):
        for yard in small():
            good = plain.good_lots(yard)
            for lot in plain.every_lot(yard):
                if lot not in good:
                    self.assertIsNone(can_go(yard, lot))
                    self.assertIsNone(can_come(yard, lot))
                    continue
                go = tuple(number for number in lot if tuple(k for k in lot if k != number) in good)
                come = tuple(number for number in plain.numbers(yard)
                             if number not in lot and tuple(sorted(lot + (number,))) in good)
                self.assertEqual([can_go(yard, lot), can_come(yard, lot)], [go, come])


if __name__ == "__main__":
    unittest.main()
