"""Point 29: rings and round yards, against all rows of gaps and all choices."""

import unittest

from tests import plain
from tests.samples import (BACK, DOUBLE, EITHER, EMPTY, FAR, FULL, GAPPY, INWARD, LINE, LONE_ROOMS, LONG_RING, RING,
                           STAR, TWICE, WIDE, chosen, small, tiny)
from walledin.choices import with_sides
from walledin.rings import (bridges, can_be_round, count_ringless, count_round, is_ringless, is_round,
                            ringless_choices, round_choices, round_rooms)

CIRCLE = (9, tuple((room, room + 1, 0) for room in range(8)) + ((0, 8, 1),))


def yards_with_choices():
    return tiny() + chosen(70, 4, 4, 31) + [DOUBLE, EITHER, WIDE, LONG_RING, FAR]


class Rings(unittest.TestCase):
    def test_without_walls(self):
        for yard in (EMPTY, LONE_ROOMS):
            self.assertEqual([is_ringless(yard), ringless_choices(yard), count_ringless(yard)], [True, [()], 1])

    def test_either_side(self):
        self.assertEqual([is_ringless((2, ((0, 1, 2),))), is_ringless(EITHER), is_ringless(FAR)], [False] * 3)
        self.assertEqual([ringless_choices((2, ((0, 1, 2),))), ringless_choices(EITHER)], [[(0,)], [(0, 0)]])

    def test_some(self):
        self.assertEqual([is_ringless(LINE), is_ringless(BACK), is_ringless(STAR), is_ringless(RING)],
                         [True, True, True, False])
        self.assertEqual([is_ringless(CIRCLE), is_ringless((9, CIRCLE[1][:8]))], [False, True])
        # Two gaps between the same rooms, there and back; and a ring away from outside.
        self.assertEqual([is_ringless(DOUBLE), is_ringless((2, ((0, 1, 0), (0, 1, 1)))),
                          is_ringless((2, ((0, 1, 0), (0, 1, 0)))), is_ringless((3, ((1, 2, 0), (1, 2, 1))))],
                         [False, False, True, False])
        self.assertEqual([ringless_choices(FAR), ringless_choices(TWICE), ringless_choices(INWARD)],
                         [[], [(0, 0, 0)], [(0,)]])

    def test_twelve_walls(self):
        self.assertEqual([ringless_choices((2, ((0, 1, 2),) * 12)), is_ringless(FULL)], [[(0,) * 12], False])
        self.assertEqual(count_ringless(FULL), len(ringless_choices(FULL)))

    def test_all_rows_of_gaps(self):
        for yard in small() + [DOUBLE, EITHER, CIRCLE, FULL]:
            self.assertIs(is_ringless(yard), not plain.has_ring(yard))

    def test_all_choices(self):
        for yard in yards_with_choices():
            found = [choice for choice in plain.good_choices(yard) if not plain.has_ring(plain.sided(yard, choice))]
            self.assertEqual(ringless_choices(yard), found)
            self.assertEqual(count_ringless(yard), len(found))


class Round(unittest.TestCase):
    def test_without_walls(self):
        for yard in (EMPTY, LONE_ROOMS):
            self.assertEqual([is_round(yard), round_rooms(yard), round_choices(yard), count_round(yard), bridges(yard),
                              can_be_round(yard)], [True, (0,), [()], 1, (), True])

    def test_either_side(self):
        # There and back through one gap, but a choice tells one side.
        self.assertEqual([is_round(EITHER), round_rooms(EITHER), round_choices(EITHER), can_be_round(EITHER)],
                         [True, (0, 1, 2), [], False])
        self.assertEqual([is_round(FAR), round_rooms(FAR)], [False, (0,)])

    def test_some(self):
        self.assertEqual([is_round(CIRCLE), round_rooms(CIRCLE), bridges(CIRCLE), can_be_round(CIRCLE)],
                         [True, tuple(range(9)), (), True])
        self.assertEqual([round_choices(CIRCLE)], [[(0,) * 8 + (1,), (1,) * 8 + (0,)]])
        self.assertEqual([is_round(LINE), round_rooms(LINE), is_round(GAPPY), round_rooms(GAPPY)],
                         [False, (0,), False, (0, 2)])
        # One comes to the room 3 and not back, and from the room 2 to outside, but not to it.
        self.assertEqual([round_rooms((4, ((0, 1, 2), (1, 2, 1), (1, 3, 0)))), is_round(TWICE), count_round(TWICE)],
                         [(0, 1), True, 6])
        # A room without walls does not matter.
        self.assertEqual([is_round((5, RING[1])), round_rooms((5, RING[1]))], [is_round(RING), round_rooms(RING)])

    def test_rooms_away_from_outside(self):
        far = (4, ((1, 2, 0), (2, 3, 0), (1, 3, 1)))
        self.assertEqual([is_round(far), round_choices(far), bridges(far), can_be_round(far)], [False, [], (), False])

    def test_bridges(self):
        self.assertEqual([bridges(LINE), bridges(BACK), bridges(FAR), bridges(RING), bridges(TWICE)],
                         [(0, 1), (0, 1), (0, 1, 2), (), ()])
        self.assertEqual([bridges(DOUBLE), bridges(STAR), bridges((4, RING[1] + ((2, 3, 0),)))], [(), (0, 1, 2), (3,)])

    def test_twelve_walls(self):
        self.assertEqual([count_round((2, ((0, 1, 2),) * 12)), bridges(FULL), can_be_round(FULL)], [4094, (), True])
        found = round_choices(FULL)
        self.assertEqual([len(found), found], [count_round(FULL), sorted(set(found))])
        self.assertTrue(all(is_round(with_sides(FULL, choice)) for choice in found))

    def test_all_rooms(self):
        for yard in small() + [DOUBLE, EITHER, CIRCLE, FULL]:
            every = plain.numbers(yard)
            rooms = [room for room in plain.come(yard, every) if 0 in plain.walk_on(yard, every, {room}, True)]
            self.assertEqual(round_rooms(yard), tuple(sorted(rooms)))
            self.assertIs(is_round(yard), plain.is_round(yard))
            parted = [number for number in every if yard[1][number][1] not in
                      plain.walk_on(yard, [other for other in every if other != number], yard[1][number][:1], False)]
            self.assertEqual(bridges(yard), tuple(parted))

    def test_all_choices(self):
        for yard in yards_with_choices():
            found = [choice for choice in plain.every_choice(yard) if plain.is_round(plain.sided(yard, choice))]
            self.assertEqual(round_choices(yard), found)
            self.assertEqual(count_round(yard), len(found))
            self.assertIs(can_be_round(yard), bool(found))


if __name__ == "__main__":
    unittest.main()
