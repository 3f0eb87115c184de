"""Point 13: trees, against all ways in a yard and all orders."""

import unittest
from math import factorial, prod

from tests import plain
from tests.samples import (BACK, EMPTY, FAR, FULL, GAPPY, INWARD, LINE, LONE_ROOMS, LONG_RING, RING, STAR, TWICE, WIDE,
                           rows, small, trees)
from walledin.errors import BadNumber, BadOrder, BadWall, BadYard, NotTree
from walledin.trees import (first_chance, hanging, is_tree, order_of_tree, tree_cost, tree_gate, tree_orders)
from walledin.ways import last_gate

COMB = (6, ((3, 4, 2), (0, 2, 0), (2, 3, 0), (1, 3, 1), (0, 5, 2)))
GREAT = (9, ((0, 8, 0), (7, 8, 1), (6, 7, 1), (5, 8, 1), (0, 4, 2), (3, 4, 1), (2, 4, 2), (1, 2, 1)))
OTHERS = [BACK, FAR, FULL, INWARD, LONG_RING, RING, TWICE, WIDE, (4, ((0, 1, 0), (1, 2, 1), (1, 3, 0))),
          (2, ((0, 1, 0), (0, 1, 0))), (4, ((0, 1, 0), (2, 3, 0))), (4, ((1, 2, 0), (2, 3, 0), (1, 3, 0)))]


def grown_trees():
    return [EMPTY, LONE_ROOMS, LINE, STAR, GAPPY, COMB] + trees(80, 6, 7)


class Trees(unittest.TestCase):
    def test_some(self):
        for yard in grown_trees() + [GREAT]:
            self.assertIs(is_tree(yard), True)
        for yard in OTHERS:
            self.assertIs(is_tree(yard), False)

    def test_all_ways(self):
        for yard in small() + trees(40, 6, 8):
            self.assertIs(is_tree(yard), plain.is_tree(yard))

    def test_other_yards(self):
        for yard in OTHERS:
            for number in (0, None, -1, 99):
                for function in (tree_gate, first_chance, order_of_tree, tree_cost):
                    with self.assertRaises(NotTree):
                        function(yard, number)
            for function in (hanging, tree_orders):
                with self.assertRaises(NotTree):
                    function(yard)

    def test_no_yards(self):
        for function in (tree_gate, first_chance, order_of_tree, tree_cost):
            with self.assertRaises(BadYard) as caught:
                function((2, ((0, 1, 1), (0, 2, 0))), None)
            self.assertEqual(caught.exception.index, 1)

    def test_wrong_arguments_of_trees(self):
        for function, error, wrong in ((tree_gate, BadWall, 2), (first_chance, BadWall, True),
                                       (order_of_tree, BadOrder, (0, 0)), (tree_cost, BadNumber, (1, 1001)),
                                       (tree_cost, BadNumber, (-1, 0)), (tree_cost, BadNumber, (0, 0, 0))):
            with self.assertRaises(error):
                function(LINE, wrong)


class Orders(unittest.TestCase):
    def test_without_walls(self):
        for yard in (EMPTY, LONE_ROOMS):
            self.assertEqual([hanging(yard), tree_orders(yard), order_of_tree(yard, ()), tree_cost(yard, ())],
                             [(), 1, True, 0])
            for function in (tree_gate, first_chance):
                with self.assertRaises(BadWall):
                    function(yard, 0)

    def test_comb(self):
        self.assertEqual([hanging(COMB), tree_orders(COMB)], [(1, 4, 3, 1, 1), 10])
        self.assertEqual([tree_gate(COMB, number) for number in range(5)], [2, None, 1, 2, None])
        self.assertEqual([first_chance(COMB, number) for number in range(5)], [(0, 1), (4, 5), (0, 1), (0, 1), (1, 5)])
        self.assertEqual([order_of_tree(COMB, (0, 3, 2, 1, 4)), order_of_tree(COMB, (0, 2, 3, 1, 4))], [True, False])
        self.assertEqual(tree_cost(COMB, (0, 0, 0, 0, 1000)), 1000)
        self.assertEqual(tree_cost(COMB, (0, 0, 0, 1000, 0)), 3000)
        self.assertEqual(tree_cost(COMB, (1000,) * 5), 15000)

    def test_nine_rooms(self):
        self.assertEqual([hanging(GREAT), tree_orders(GREAT)], [(4, 2, 1, 1, 4, 1, 2, 1), 630])
        self.assertEqual([first_chance(GREAT, 4), first_chance(GREAT, 6)], [(1, 2), (0, 1)])
        self.assertEqual(tree_cost((9, tuple((0, room, 0) for room in range(1, 9))), (8, 7, 6, 5, 4, 3, 2, 1)), 120)

    def test_all_orders(self):
        for yard in grown_trees():
            good = plain.good_orders(yard)
            many = len(yard[1])
            self.assertEqual(tree_orders(yard), len(good))
            self.assertEqual(tree_orders(yard), factorial(many) // prod(hanging(yard)))
            for order in plain.every_order(yard):
                self.assertIs(order_of_tree(yard, order), order in good)
            for number in plain.numbers(yard):
                last = sum(order[-1] == number for order in good)
                self.assertEqual(first_chance(yard, number), plain.ratio(last, len(good)))
                self.assertEqual(tree_gate(yard, number), last_gate(yard, number))
            for weights in rows(yard, 0, 1000, 9):
                cost = min(sum(weights[number] * (many - place) for place, number in enumerate(order))
                           for order in good)
                self.assertEqual(tree_cost(yard, weights), cost)

    def test_all_gaps(self):
        for yard in grown_trees() + [GREAT]:
            for number in plain.numbers(yard):
                rest = [other for other in plain.numbers(yard) if other != number]
                left = plain.joined(yard, rest)
                behind = [other for other in rest if not left & set(yard[1][other][:2])]
                self.assertEqual(hanging(yard)[number], 1 + len(behind))


if __name__ == "__main__":
    unittest.main()
