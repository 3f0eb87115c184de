"""Point 32: sites, against all that a mason can do, and with all sorts of steps taken and taken back."""

import unittest
from random import Random

from tests import plain
from tests.samples import (BACK, DOUBLE, EITHER, EMPTY, FAR, FULL, GAPPY, INWARD, LINE, LONE_ROOMS, LONG_RING, RING,
                           STAR, TWICE, WIDE, chosen, few)
from walledin.errors import BadRoom, BadWall, BadYard, CannotSet, NothingToUndo
from walledin.sites import Site
from walledin.walks import has_walk


def told(site):
    return (site.gaps, site.done, site.room, site.undoable)


class Steps(unittest.TestCase):
    def test_at_first(self):
        self.assertEqual(told(Site(EMPTY, 0)), ((), (), 0, 0))
        self.assertEqual(told(Site(RING, 2)), ((0, 1, 2), (), 2, 0))

    def test_wrong_arguments(self):
        for room in (3, -1, True, None, "0", (0,), [0]):
            with self.assertRaises(BadRoom):
                Site(LINE, room)
            with self.assertRaises(BadYard):
                Site((3, ((0, 1),)), room)

    def test_walking(self):
        site = Site(GAPPY, 0)
        site.walk(5)
        self.assertEqual(told(site), ((0, 1), (), 5, 1))
        # No gap leads to the rooms 1, 3 and 4.
        for room in (1, 3, 4, 6, -1, True, None, "0", (0,), {}):
            with self.assertRaises(BadRoom):
                site.walk(room)
            self.assertEqual(told(site), ((0, 1), (), 5, 1))
        # Where it stands it can walk to, through no gap, and take that back.
        site.walk(5)
        self.assertEqual(told(site), ((0, 1), (), 5, 2))

    def test_setting(self):
        site = Site(RING, 0)
        for number in (3, -1, True, False, None, "0", (0,), [0], {}):
            with self.assertRaises(BadWall):
                site.put(number)
        # The wall 1 may be set from the room 2 alone, and the mason does not walk by itself.
        with self.assertRaises(CannotSet):
            site.put(1)
        self.assertEqual(told(site), ((0, 1, 2), (), 0, 0))
        site.put(2)
        self.assertEqual(told(site), ((0, 1), (2,), 0, 1))
        with self.assertRaises(CannotSet):
            site.put(2)
        site.walk(2)
        site.put(1)
        self.assertEqual(told(site), ((0,), (2, 1), 2, 3))
        # The gap that it came through is closed.
        with self.assertRaises(BadRoom):
            site.walk(1)
        self.assertEqual(told(site), ((0,), (2, 1), 2, 3))

    def test_taking_back(self):
        site = Site(RING, 1)
        with self.assertRaises(NothingToUndo):
            site.undo()
        site.walk(2)
        site.put(1)
        site.put(2)
        for expected in (((0, 2), (1,), 2, 2), ((0, 1, 2), (), 2, 1), ((0, 1, 2), (), 1, 0)):
            site.undo()
            self.assertEqual(told(site), expected)
        for _ in range(2):
            with self.assertRaises(NothingToUndo):
                site.undo()
            self.assertEqual(told(site), ((0, 1, 2), (), 1, 0))

    def test_steps_answer_nothing(self):
        site = Site(LINE, 1)
        self.assertEqual([site.put(1), site.walk(0), site.undo()], [None, None, None])

    def test_sites_apart(self):
        one, other = Site(LINE, 1), Site(LINE, 1)
        one.put(1)
        self.assertEqual([told(one), told(other)], [((0,), (1,), 1, 1), ((0, 1), (), 1, 0)])

    def test_all_sorts_of_steps(self):
        source = Random(61)
        for yard in few() + [DOUBLE, EITHER]:
            start = source.randrange(yard[0])
            site = Site(yard, start)
            past = [(tuple(plain.numbers(yard)), (), start)]
            for _ in range(30):
                self.take_step(yard, site, past, source)
                gaps, done, room = past[-1]
                self.assertEqual(told(site), (gaps, done, room, len(past) - 1))

    def take_step(self, yard, site, past, source):
        """Take a step of a site, right or wrong, and keep what should be told of it."""
        gaps, done, room = past[-1]
        kind = source.choice(("walk", "put", "put", "undo"))
        if kind == "walk":
            there = source.randrange(yard[0])
            if there in plain.walk_on(yard, gaps, {room}, False):
                site.walk(there)
                past.append((gaps, done, there))
            else:
                self.assertRaises(BadRoom, site.walk, there)
        elif kind == "put" and yard[1]:
            number = source.randrange(len(yard[1]))
            if number in gaps and room in plain.setting_rooms(yard[1][number]):
                site.put(number)
                past.append((tuple(gap for gap in gaps if gap != number), done + (number,), room))
            else:
                self.assertRaises(CannotSet, site.put, number)
        elif kind == "undo" and len(past) > 1:
            site.undo()
            past.pop()
        elif kind == "undo":
            self.assertRaises(NothingToUndo, site.undo)


class Finishing(unittest.TestCase):
    def test_nothing_to_set(self):
        self.assertEqual([Site(EMPTY, 0).can_finish(), Site(EMPTY, 0).safe()], [True, ()])
        self.assertEqual([Site(LONE_ROOMS, room).can_finish() for room in range(4)], [True, False, False, False])
        self.assertEqual(Site(LONE_ROOMS, 2).safe(), ())

    def test_some(self):
        self.assertEqual([Site(LINE, room).safe() for room in range(3)], [(1,), (1,), (1,)])
        self.assertEqual([Site(STAR, 3).safe(), Site(TWICE, 1).safe(), Site(INWARD, 1).safe()],
                         [(0, 1, 2), (0, 1, 2), ()])
        self.assertEqual([Site(yard, room).can_finish() for yard in (BACK, FAR, INWARD) for room in range(yard[0])],
                         [False] * 10)
        self.assertEqual([Site(GAPPY, room).can_finish() for room in range(6)], [True, False, True, False, False, True])

    def test_one_side_alone_may_be_safe(self):
        # The last wall must be set from outside, which is one of its sides alone.
        site = Site((2, ((0, 1, 2),)), 1)
        self.assertEqual([site.safe(), site.can_finish()], [(0,), True])
        site.put(0)
        self.assertEqual([site.gaps, site.room, site.can_finish(), site.safe()], [(), 1, False, ()])
        site.undo()
        site.walk(0)
        site.put(0)
        self.assertEqual([site.gaps, site.room, site.can_finish(), site.safe()], [(), 0, True, ()])

    def test_nothing_that_tells_changes(self):
        site = Site(LONG_RING, 2)
        site.put(1)
        kept = told(site)
        self.assertEqual([site.safe(), site.can_finish(), site.safe()], [site.safe(), True, site.safe()])
        self.assertEqual(told(site), kept)

    def test_twelve_walls(self):
        for room in range(9):
            site = Site(FULL, room)
            self.assertIs(site.can_finish(), True)
            while site.gaps:
                number = site.safe()[-1]
                self.set_well(site, number)
            self.assertEqual([site.room, len(site.done), site.can_finish()], [0, 12, True])

    def set_well(self, site, number):
        """Let the mason walk to a side of a wall and set it so that it still can finish."""
        for room in sorted(plain.setting_rooms(FULL[1][number])):
            kept = site.undoable
            try:
                site.walk(room)
                site.put(number)
            except BadRoom:
                continue
            if site.can_finish():
                return
            while site.undoable > kept:
                site.undo()
        self.fail("no side is safe")

    def test_all_that_a_mason_can_do(self):
        for yard in few() + chosen(40, 3, 4, 62) + [DOUBLE, EITHER, WIDE]:
            for room in range(yard[0]):
                self.look(yard, Site(yard, room))
                self.assertIs(Site(yard, room).can_finish(), has_walk(yard, room))

    def look(self, yard, site, deep=0):
        """Compare what a site tells with the words, here and behind each wall that can be set next, three deep."""
        self.assertIs(site.can_finish(), plain.finishes(yard, site.gaps, site.room))
        self.assertEqual(site.safe(), plain.safe(yard, site.gaps, site.room))
        if not site.can_finish():
            self.assertEqual(site.safe(), ())
        if deep == 3:
            return
        for number, side in plain.moves(yard, site.gaps, site.room):
            site.walk(side)
            site.put(number)
            self.look(yard, site, deep + 1)
            site.undo()
            site.undo()


if __name__ == "__main__":
    unittest.main()
