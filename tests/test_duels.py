"""Point 30: two players who choose the sides of walls, against all plays."""

import unittest

from tests import plain
from tests.samples import (BACK, DOUBLE, EITHER, EMPTY, FAR, FULL, GAPPY, INWARD, LINE, LONE_ROOMS, LONG_RING, RING,
                           STAR, TWICE, chosen, tiny)
from walledin.duels import builder_wins, duel_table, good_starts
from walledin.errors import BadNumber, BadYard, TooMany

NO_MOVERS = (2, -1, True, False, None, "0", (0,), [1], 10 ** 40, {})
SEVEN = (8, tuple((room, room + 1, 0) for room in range(7)))
EIGHT = (9, tuple((room, room + 1, 0) for room in range(8)))


class Duels(unittest.TestCase):
    def test_without_walls(self):
        for yard in (EMPTY, LONE_ROOMS):
            self.assertEqual(duel_table(yard), (True, True))
            for mover in (0, 1):
                self.assertEqual([builder_wins(yard, mover), good_starts(yard, mover)], [True, ()])

    def test_one_wall(self):
        self.assertEqual([duel_table(INWARD), good_starts(INWARD, 0), good_starts(INWARD, 1)],
                         [(True, False), ((0, 0),), ((0, 1),)])
        # Away from outside no side leaves an order.
        away = (3, ((1, 2, 0),))
        self.assertEqual([duel_table(away), good_starts(away, 0), good_starts(away, 1)],
                         [(False, False), (), ((0, 0), (0, 1))])

    def test_some(self):
        self.assertEqual([duel_table(LINE), duel_table(BACK), duel_table(STAR), duel_table(GAPPY), duel_table(FAR)],
                         [(False, False)] * 5)
        # Of three gaps between the same rooms two are left to choose, whatever player 0 begins with.
        self.assertEqual([duel_table(TWICE), good_starts(TWICE, 0), good_starts(TWICE, 1)],
                         [(True, True), tuple((number, side) for number in range(3) for side in (0, 1)), ()])
        self.assertEqual([duel_table(RING), good_starts(RING, 0), good_starts(RING, 1)],
                         [(True, False), ((0, 0), (2, 0)), ((0, 1), (2, 1))])
        pairs = (3, ((0, 1, 0), (0, 1, 0), (1, 2, 0), (1, 2, 0)))
        self.assertEqual([duel_table(pairs), good_starts(pairs, 1)], [(True, True), ()])

    def test_own_sides_do_not_matter(self):
        for yard in (RING, TWICE, DOUBLE, EITHER, LONG_RING):
            for sides in plain.product((0, 1, 2), repeat=len(yard[1])):
                other = plain.sided(yard, sides)
                self.assertEqual(duel_table(other), duel_table(yard))
                self.assertEqual(good_starts(other, 1), good_starts(yard, 1))

    def test_seven_walls(self):
        self.assertEqual([duel_table(SEVEN), good_starts(SEVEN, 0)], [(False, False), ()])
        self.assertEqual(good_starts((2, ((0, 1, 0),) * 7), 0), tuple((number, side) for number in range(7)
                                                                      for side in (0, 1)))
        self.assertEqual(duel_table((2, ((0, 1, 2),) * 7)), (True, True))

    def test_too_many(self):
        for yard in (EIGHT, FULL):
            for function in (builder_wins, good_starts):
                for mover in (0, 1):
                    with self.assertRaises(TooMany) as caught:
                        function(yard, mover)
                    self.assertEqual(caught.exception.most, 7)
                # What is wrong with the other argument comes first.
                for mover in NO_MOVERS:
                    with self.assertRaises(BadNumber):
                        function(yard, mover)
            with self.assertRaises(TooMany) as caught:
                duel_table(yard)
            self.assertEqual(caught.exception.most, 7)

    def test_wrong_movers(self):
        for function in (builder_wins, good_starts):
            for mover in NO_MOVERS:
                for yard in (LINE, EMPTY):
                    with self.assertRaises(BadNumber):
                        function(yard, mover)
                with self.assertRaises(BadYard):
                    function((3, None), mover)

    def test_all_plays(self):
        for yard in tiny()[::2] + chosen(40, 4, 4, 41) + chosen(4, 5, 5, 42) + [RING, TWICE, DOUBLE, LONG_RING, FAR]:
            none = (None,) * len(yard[1])
            table = tuple(plain.builder_wins(yard, none, mover) for mover in (0, 1))
            self.assertEqual(duel_table(yard), table)
            for mover in (0, 1):
                self.assertIs(builder_wins(yard, mover), table[mover])
                good = []
                for number in plain.numbers(yard):
                    for side in (0, 1):
                        sides = none[:number] + (side,) + none[number + 1:]
                        if plain.builder_wins(yard, sides, 1 - mover) == (mover == 0):
                            good.append((number, side))
                self.assertEqual(good_starts(yard, mover), tuple(good))


if __name__ == "__main__":
    unittest.main()
