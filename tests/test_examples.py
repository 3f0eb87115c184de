"""The examples of the document's interface, each heading's as it stands there."""

import unittest

from walledin.errors import BadYard


class Examples(unittest.TestCase):
    def test_yards(self):
        from walledin.yards import rooms_come_to, rooms_open_to, sides, steps_between, touching
        ring = (3, ((0, 1, 0), (1, 2, 1), (0, 2, 2)))
        self.assertEqual(
            [sides(ring, 2), rooms_come_to(ring, (0, 1)), rooms_open_to(ring, (0, 1)),
             steps_between(ring, (0, 1), 0, 2), touching(ring, 1)],
            [(0, 2), (0, 1), (0, 1, 2), 2, (0, 1)])
        with self.assertRaises(BadYard) as caught:
            sides((2, ((0, 1, 0), (1, 0, 0))), 0)
        self.assertEqual(caught.exception.index, 1)

    def test_orders(self):
        from walledin.orders import can_walk, first_order, has_order, is_order, last_order, stands, stuck_at
        line = (3, ((0, 1, 0), (1, 2, 0)))
        self.assertEqual(
            [is_order(line, (1, 0)), is_order(line, (0, 1)), stuck_at(line, (0, 1)), stands(line, (1, 0)),
             can_walk(line, (1, 0), 2), first_order(line), last_order(line), has_order((2, ((0, 1, 1),)))],
            [True, False, 1, (1, 0), True, (1, 0), (1, 0), False])

    def test_lots(self):
        from walledin.lots import all_gaps, can_come, can_go, count_open, heart, is_open, only_open, open_lots
        line = (3, ((0, 1, 0), (1, 2, 0)))
        self.assertEqual(
            [open_lots(line), count_open(line), is_open(line, (1,)), heart(line, (1,)), can_go(line, (0, 1)),
             can_come(line, (0,)), all_gaps(line), only_open(line, (1,))],
            [[(), (0,), (0, 1)], (1, 1, 1), False, (), (1,), (1,), (0, 1), (3, ((1, 2, 0),))])


if __name__ == "__main__":
    unittest.main()
