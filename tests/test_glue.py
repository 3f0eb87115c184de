"""Point 33: yards put together, renamed and taken apart, against walls that hang together."""

import unittest
from itertools import permutations

from tests import plain
from tests.samples import (BACK, DOUBLE, EITHER, EMPTY, FAR, FULL, GAPPY, INWARD, LINE, LONE_ROOMS, RING, STAR, TWICE,
                           chosen, few, small)
from walledin.counts import count_orders
from walledin.errors import BadRoom, BadYard, TooMany
from walledin.glue import beside, onto, part_yards, parts, renamed

NINE = (9, ())
TWELVE = (2, ((0, 1, 0),) * 12)


class Together(unittest.TestCase):
    def test_beside(self):
        self.assertEqual([beside(EMPTY, EMPTY), beside(EMPTY, LINE), beside(LINE, EMPTY), beside(LONE_ROOMS, (3, ()))],
                         [EMPTY, LINE, LINE, (6, ())])
        self.assertEqual(beside(BACK, RING), (5, ((0, 1, 0), (1, 2, 1), (0, 3, 0), (3, 4, 1), (0, 4, 2))))
        self.assertEqual(beside(RING, BACK), (5, ((0, 1, 0), (1, 2, 1), (0, 2, 2), (0, 3, 0), (3, 4, 1))))

    def test_onto(self):
        self.assertEqual(onto(BACK, RING, 1), (5, ((0, 1, 0), (1, 2, 1), (1, 3, 0), (3, 4, 1), (1, 4, 2))))
        self.assertEqual([onto(LINE, EMPTY, 2), onto(EMPTY, LINE, 0), onto(LONE_ROOMS, INWARD, 3)],
                         [LINE, LINE, (5, ((3, 4, 1),))])
        for one, other in ((LINE, RING), (GAPPY, STAR), (EMPTY, FAR)):
            self.assertEqual(onto(one, other, 0), beside(one, other))

    def test_limits(self):
        self.assertEqual([beside(NINE, EMPTY), beside((5, ()), (5, ()))], [NINE, NINE])
        self.assertEqual([len(beside(TWELVE, LONE_ROOMS)[1]), len(onto(STAR, (2, ((0, 1, 0),) * 9), 1)[1])], [12, 12])
        for one, other, most in ((NINE, (2, ()), 9), ((5, ()), (6, ()), 9), (TWELVE, INWARD, 12), (TWELVE, TWELVE, 12),
                                 (STAR, (2, ((0, 1, 0),) * 10), 12), ((9, TWELVE[1]), TWELVE, 9), (FULL, FULL, 9)):
            with self.assertRaises(TooMany) as caught:
                beside(one, other)
            self.assertEqual(caught.exception.most, most)
            with self.assertRaises(TooMany) as caught:
                onto(one, other, 1)
            self.assertEqual(caught.exception.most, most)

    def test_wrong_arguments(self):
        for room in (3, -1, True, None, "0", (0,), [0]):
            with self.assertRaises(BadRoom):
                onto(LINE, RING, room)
            # Too many rooms come behind what is wrong with an argument.
            with self.assertRaises(BadRoom):
                onto((3, ((0, 1, 0),) * 12), FULL, room)
            with self.assertRaises(BadYard) as caught:
                onto(FULL, (2, ((0, 1, 0), (0, 2, 0))), room)
            self.assertEqual(caught.exception.index, 1)
        with self.assertRaises(BadYard) as caught:
            beside(FULL, (2, (None,)))
        self.assertEqual(caught.exception.index, 0)
        with self.assertRaises(BadYard) as caught:
            beside((2, (None,)), (0, ()))
        self.assertEqual(caught.exception.index, 0)

    def test_all_rooms(self):
        yards = chosen(25, 4, 4, 71)
        for one in yards:
            for other in yards[::5]:
                for room in range(one[0]):
                    names = [room] + list(range(one[0], one[0] + other[0]))
                    walls = one[1] + tuple(plain.walls_of(plain.told(other, names)))
                    self.assertEqual(onto(one, other, room), (one[0] + other[0] - 1, walls))
                self.assertEqual(beside(one, other), onto(one, other, 0))


class Renamed(unittest.TestCase):
    def test_some(self):
        self.assertEqual([renamed(EMPTY, ()), renamed(INWARD, (1,)), renamed(LONE_ROOMS, (3, 1, 2))],
                         [EMPTY, INWARD, LONE_ROOMS])
        self.assertEqual(renamed(RING, (2, 1)), (3, ((0, 2, 0), (1, 2, 0), (0, 1, 2))))
        self.assertEqual(renamed((4, ((1, 2, 0), (2, 3, 2), (1, 3, 1))), (2, 3, 1)),
                         (4, ((2, 3, 0), (1, 3, 2), (1, 2, 0))))

    def test_wrong_rooms(self):
        for rooms in ((), (1,), (1, 1), (0, 1), (1, 3), (1, 2, 3), (0, 1, 2), (True, 2), (1, None), ("1", 2), [1, 2],
                      "12", None, 1, {1: 1, 2: 2}, ((1, 2),)):
            with self.assertRaises(BadRoom):
                renamed(LINE, rooms)
        for rooms in ((0,), (1,), None, []):
            with self.assertRaises(BadRoom):
                renamed(EMPTY, rooms)

    def test_all_names(self):
        for yard in [yard for yard in small() if yard[0] < 6] + [GAPPY, DOUBLE, EITHER]:
            orders = count_orders(yard)
            for rooms in list(permutations(range(1, yard[0])))[:30]:
                found = renamed(yard, rooms)
                self.assertEqual(found, (yard[0], tuple(plain.walls_of(plain.told(yard, (0,) + rooms)))))
                self.assertEqual(count_orders(found), orders)
                back = tuple(rooms.index(room) + 1 for room in range(1, yard[0]))
                self.assertEqual(renamed(found, back), yard)


class Parts(unittest.TestCase):
    def test_some(self):
        for yard in (EMPTY, LONE_ROOMS, NINE):
            self.assertEqual([parts(yard), part_yards(yard)], [(), ()])
        self.assertEqual([parts(LINE), part_yards(LINE), parts(TWICE), part_yards(TWICE)],
                         [((0, 1),), (LINE,), ((0, 1, 2),), (TWICE,)])
        self.assertEqual([parts(STAR), part_yards(STAR)], [((0,), (1,), (2,)), ((2, ((0, 1, 0),)),) * 3])
        self.assertEqual([parts(FAR), part_yards(FAR)],
                         [((0,), (1, 2)), ((2, ((0, 1, 0),)), (4, ((1, 2, 2), (2, 3, 0))))])
        # Walls hang together though others stand between them, and through more than one room.
        mixed = (8, ((0, 5, 1), (0, 2, 0), (5, 7, 2), (2, 3, 1), (1, 7, 0), (0, 1, 2)))
        self.assertEqual(parts(mixed), ((0, 2, 4, 5), (1, 3)))
        self.assertEqual(part_yards(mixed), ((4, ((0, 2, 1), (2, 3, 2), (1, 3, 0), (0, 1, 2))),
                                             (3, ((0, 1, 0), (1, 2, 1)))))

    def test_twelve_walls(self):
        self.assertEqual([parts(FULL), part_yards(FULL)[1]],
                         [((0, 1, 8), (2, 3, 9), (4, 5, 10), (6, 7, 11)), (3, ((0, 1, 0), (0, 2, 0), (1, 2, 0)))])

    def test_beside(self):
        for one, other in ((LINE, RING), (STAR, TWICE), (EMPTY, FAR)):
            self.assertEqual(part_yards(beside(one, other)), part_yards(one) + part_yards(other))

    def test_walls_that_hang_together(self):
        for yard in small() + few() + chosen(60, 9, 8, 72) + [DOUBLE, EITHER]:
            found = plain.parts(yard)
            self.assertEqual(parts(yard), found)
            expected = []
            for lot in found:
                rooms = sorted({0} | {room for number in lot for room in yard[1][number][:2]})
                walls = plain.walls_of(plain.told(plain.only(yard, lot), {room: at for at, room in enumerate(rooms)}))
                expected.append((len(rooms), tuple(walls)))
            self.assertEqual(part_yards(yard), tuple(expected))


if __name__ == "__main__":
    unittest.main()
