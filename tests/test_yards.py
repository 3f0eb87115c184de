"""Point 2: yards, walls, lots, and where one walks."""

import unittest

from tests import plain
from tests.samples import EMPTY, GAPPY, LINE, LONE_ROOMS, LONG_RING, RING, TWICE, WIDE, small
from walledin.yards import rooms_come_to, rooms_open_to, sides, steps_between, touching


class Sides(unittest.TestCase):
    def test_each_side(self):
        self.assertEqual([sides(TWICE, number) for number in range(3)], [(0,), (1,), (0, 1)])
        self.assertEqual(sides(WIDE, 1), (8,))

    def test_plain(self):
        for yard in small():
            for number in plain.numbers(yard):
                self.assertEqual(sides(yard, number), tuple(sorted(plain.setting_rooms(yard[1][number]))))


class Walking(unittest.TestCase):
    def test_told_sides(self):
        self.assertEqual(rooms_open_to(RING, (1,)), (0,))
        self.assertEqual(rooms_come_to(RING, (1, 2)), (0, 1, 2))
        self.assertEqual(rooms_come_to(LINE, (1,)), (0,))
        self.assertEqual(rooms_come_to((2, ((0, 1, 1),)), (0,)), (0,))
        self.assertEqual(rooms_open_to((2, ((0, 1, 1),)), (0,)), (0, 1))

    def test_empty_lot(self):
        for yard in (EMPTY, LONE_ROOMS, RING, WIDE):
            self.assertEqual(rooms_open_to(yard, ()), (0,))
            self.assertEqual(rooms_come_to(yard, ()), (0,))

    def test_steps(self):
        self.assertEqual(steps_between(LONG_RING, (0, 1, 2, 3), 0, 2), 2)
        self.assertEqual(steps_between(LONG_RING, (0, 1, 2), 3, 0), 3)
        self.assertEqual(steps_between(LONG_RING, (), 2, 2), 0)
        self.assertIsNone(steps_between(LONG_RING, (0, 3), 2, 0))
        self.assertEqual(steps_between(EMPTY, (), 0, 0), 0)
        self.assertIsNone(steps_between(LONE_ROOMS, (), 0, 3))

    def test_steps_from_any_side(self):
        self.assertEqual(steps_between(LINE, (0, 1), 2, 0), 2)

    def test_plain(self):
        for yard in small():
            for lot in plain.every_lot(yard):
                self.assertEqual(rooms_come_to(yard, lot), tuple(sorted(plain.come(yard, lot))))
                self.assertEqual(rooms_open_to(yard, lot), tuple(sorted(plain.walk_on(yard, lot, {0}, False))))

    def test_plain_steps(self):
        for yard in small()[::2]:
            for lot in plain.every_lot(yard):
                for one in range(yard[0]):
                    for other in range(yard[0]):
                        self.assertEqual(steps_between(yard, lot, one, other),
                                         plain.fewest_steps(yard, lot, one, other))


class Touching(unittest.TestCase):
    def test_rooms(self):
        self.assertEqual([touching(GAPPY, room) for room in range(6)], [(0,), (), (0, 1), (), (), (1,)])
        self.assertEqual(touching(TWICE, 1), (0, 1, 2))
        self.assertEqual(touching(EMPTY, 0), ())

    def test_side_is_no_room(self):
        self.assertEqual(touching((3, ((0, 1, 2),)), 2), ())


if __name__ == "__main__":
    unittest.main()
