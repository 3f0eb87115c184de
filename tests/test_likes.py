"""Points 34 and 35: yards that are alike, against all names, and orders that are near one another, against all."""

import unittest
from itertools import combinations, product

from tests import plain
from tests.samples import (BACK, DOUBLE, EITHER, EMPTY, FAR, FULL, GAPPY, INWARD, LINE, LONE_ROOMS, LONG_RING, RING,
                           STAR, TWICE, all_walls, chosen, few, small, tiny)
from walledin.counts import swaps
from walledin.errors import BadOrder, BadYard, TooMany
from walledin.likes import (alike, classes, count_alike, first_like, fixed_rooms, swaps_between, symmetries,
                            unlike_pairs)

SEVEN_ROOMS = (7, ((0, 1, 0),))
EIGHT = (9, tuple((0, room, 0) for room in range(1, 9)))
NINE = (9, EIGHT[1] + ((1, 2, 0),))
SIX = (6, ((0, 1, 0), (1, 2, 2), (2, 3, 1), (3, 4, 2), (4, 5, 0), (0, 5, 1)))


def yards_to_name():
    return [yard for yard in tiny() + few() if yard[0] <= 5 and len(yard[1]) <= 4] + [DOUBLE, EITHER]


class Alike(unittest.TestCase):
    def test_without_walls(self):
        self.assertEqual([alike(EMPTY, EMPTY), alike(EMPTY, (2, ())), alike(LONE_ROOMS, LONE_ROOMS)],
                         [True, False, True])
        self.assertEqual([symmetries(EMPTY), classes(EMPTY), fixed_rooms(EMPTY), count_alike(EMPTY)],
                         [[()], ((0,),), (0,), 1])
        self.assertEqual([len(symmetries(LONE_ROOMS)), classes(LONE_ROOMS), fixed_rooms(LONE_ROOMS)],
                         [6, ((0,), (1, 2, 3)), (0,)])
        self.assertEqual([first_like(EMPTY), first_like(LONE_ROOMS), count_alike(LONE_ROOMS)], [EMPTY, LONE_ROOMS, 1])

    def test_some(self):
        self.assertEqual([alike(LINE, (3, ((1, 2, 1), (0, 2, 0)))), alike(LINE, (3, ((1, 2, 0), (0, 2, 0)))),
                          alike(LINE, BACK), alike(INWARD, (2, ((0, 1, 0),))), alike(RING, LINE)],
                         [True, False, False, False, False])
        # A wall may be there twice.
        self.assertEqual([alike((3, ((0, 1, 0), (0, 1, 0), (0, 2, 0))), (3, ((0, 2, 0), (0, 1, 0), (0, 2, 0)))),
                          alike((3, ((0, 1, 0), (0, 1, 0), (0, 2, 0))), (3, ((0, 1, 0), (0, 2, 1), (0, 2, 0))))],
                         [True, False])
        self.assertEqual([classes(LINE), fixed_rooms(LINE), classes(LONG_RING), fixed_rooms(LONG_RING)],
                         [((0,), (1,), (2,)), (0, 1, 2), ((0,), (1, 3), (2,)), (0, 2)])
        self.assertEqual([classes(GAPPY), symmetries(LONG_RING)], [((0,), (1, 3, 4), (2,), (5,)), [(1, 2, 3), (3, 2, 1)]])
        self.assertEqual([count_alike(STAR), count_alike(FAR), count_alike(GAPPY)], [1, 24, 20])
        self.assertEqual([first_like(BACK), first_like(FAR)], [BACK, (5, ((0, 1, 0), (2, 3, 0), (2, 4, 2)))])

    def test_six_rooms(self):
        self.assertEqual([symmetries(SIX), classes(SIX), count_alike(SIX)],
                         [[(1, 2, 3, 4, 5)], ((0,), (1,), (2,), (3,), (4,), (5,)), 120])
        lone = (6, ())
        self.assertEqual([len(symmetries(lone)), symmetries(lone)[0], symmetries(lone)[-1]],
                         [120, (1, 2, 3, 4, 5), (5, 4, 3, 2, 1)])
        twelve = (6, ((1, 2, 2),) * 12)
        self.assertEqual([count_alike(twelve), classes(twelve)], [10, ((0,), (1, 2), (3, 4, 5))])

    def test_too_many(self):
        for function in (symmetries, classes, fixed_rooms, count_alike, first_like):
            for yard in (SEVEN_ROOMS, FULL, (7, ())):
                with self.assertRaises(TooMany) as caught:
                    function(yard)
                self.assertEqual(caught.exception.most, 6)
        for one, other in ((SEVEN_ROOMS, LINE), (LINE, SEVEN_ROOMS), (SEVEN_ROOMS, SEVEN_ROOMS), (EMPTY, FULL)):
            with self.assertRaises(TooMany) as caught:
                alike(one, other)
            self.assertEqual(caught.exception.most, 6)

    def test_wrong_yards(self):
        # Too many rooms come behind what is wrong with an argument.
        for one, other, index in ((SEVEN_ROOMS, (2, (None,)), 0), ((2, (None,)), SEVEN_ROOMS, 0),
                                  ((2, (None,)), (1, None), 0), (LINE, (3, ((0, 1, 0), (0, 3, 0))), 1),
                                  (SEVEN_ROOMS, (10, ()), None)):
            with self.assertRaises(BadYard) as caught:
                alike(one, other)
            self.assertEqual(caught.exception.index, index)

    def test_all_names(self):
        for yard in yards_to_name() + [GAPPY, SIX]:
            same = plain.symmetries(yard)
            self.assertEqual(symmetries(yard), same)
            rows = {0: (0,)}
            for room in range(1, yard[0]):
                rows[room] = tuple(sorted({names[room - 1] for names in same}))
            self.assertEqual(classes(yard), tuple(sorted(set(rows.values()))))
            self.assertEqual(fixed_rooms(yard), tuple(room for room in range(yard[0]) if rows[room] == (room,)))
            if yard != SIX:
                likes = plain.every_like(yard)
                self.assertEqual(count_alike(yard), len({tuple(sorted(walls)) for walls in likes}))
                self.assertEqual(first_like(yard), (yard[0], min(likes)))

    def test_all_yards(self):
        yards = tiny()[::2] + chosen(60, 4, 3, 81)
        for one, other in product(yards[::2], yards):
            self.assertIs(alike(one, other), plain.alike(one, other))
        # Of all yards with three rooms and two walls in order, so many are alike.
        ordered = [(3, tuple(walls)) for walls in product(all_walls(3), repeat=2) if list(walls) == sorted(walls)]
        for yard in ordered:
            self.assertEqual(count_alike(yard), sum(alike(yard, other) for other in ordered))

    def test_first_like_tells_yards_apart(self):
        for one, other in combinations(chosen(40, 3, 3, 82) + [RING, LINE, BACK, TWICE], 2):
            self.assertIs(first_like(one) == first_like(other), alike(one, other))


class Swaps(unittest.TestCase):
    def test_without_walls(self):
        for yard in (EMPTY, LONE_ROOMS):
            self.assertEqual([swaps_between(yard, (), ()), unlike_pairs(yard, (), ())], [0, 0])

    def test_some(self):
        self.assertEqual([swaps_between(STAR, (0, 1, 2), (2, 1, 0)), unlike_pairs(STAR, (0, 1, 2), (2, 1, 0)),
                          swaps_between(STAR, (0, 1, 2), (1, 2, 0)), swaps_between(LINE, (1, 0), (1, 0))],
                         [3, 3, 2, 0])
        # Orders that cannot be walked have unlike pairs, too.
        self.assertEqual([swaps_between(LINE, (0, 1), (1, 0)), swaps_between(LINE, (1, 0), (0, 1)),
                          swaps_between(LINE, (0, 1), (0, 1)), unlike_pairs(LINE, (0, 1), (1, 0))],
                         [None, None, None, 1])
        self.assertEqual([swaps_between(BACK, (0, 1), (0, 1)), unlike_pairs(BACK, (0, 1), (0, 1))], [None, 0])

    def test_eight_walls(self):
        up, down = tuple(range(8)), tuple(range(7, -1, -1))
        self.assertEqual([swaps_between(EIGHT, up, down), unlike_pairs(EIGHT, up, down)], [28, 28])

    def test_too_many(self):
        for yard in (NINE, FULL):
            up = tuple(range(len(yard[1])))
            with self.assertRaises(TooMany) as caught:
                swaps_between(yard, up, up)
            self.assertEqual(caught.exception.most, 8)
            # All pairs of walls can be told of any yard.
            self.assertEqual(unlike_pairs(yard, up, up[::-1]), len(up) * (len(up) - 1) // 2)
            for order in ((), None, up[1:], list(up), up[:-1] + (0,)):
                with self.assertRaises(BadOrder):
                    swaps_between(yard, up, order)
                with self.assertRaises(BadOrder):
                    swaps_between(yard, order, up)

    def test_wrong_orders(self):
        for order in ((0, 0), (0,), None, [0, 1], "01", (0, True)):
            for function in (swaps_between, unlike_pairs):
                with self.assertRaises(BadOrder):
                    function(LINE, order, (1, 0))
                with self.assertRaises(BadOrder):
                    function(LINE, (0, 1), order)
                with self.assertRaises(BadYard):
                    function((3, 0), order, order)

    def test_all_orders(self):
        for yard in small() + [DOUBLE, EITHER]:
            good = plain.good_orders(yard)
            for one in plain.every_order(yard)[::3]:
                found = plain.exchanges(one, set(good)) if one in good else {}
                for other in plain.every_order(yard)[::2]:
                    self.assertEqual(swaps_between(yard, one, other), found.get(other) if other in good else None)
                    pairs = [(a, b) for a, b in combinations(plain.numbers(yard), 2)
                             if (one.index(a) < one.index(b)) != (other.index(a) < other.index(b))]
                    self.assertEqual(unlike_pairs(yard, one, other), len(pairs))

    def test_one_exchange(self):
        for yard in few():
            for order in plain.good_orders(yard):
                near = [other for other in plain.good_orders(yard) if swaps_between(yard, order, other) == 1]
                self.assertEqual(len(near), len(swaps(yard, order)))


if __name__ == "__main__":
    unittest.main()
