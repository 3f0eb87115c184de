"""Yards for the tests: named ones, all the very small ones, and a fixed choice of greater ones."""

from itertools import combinations, product
from random import Random

EMPTY = (1, ())
LONE_ROOMS = (4, ())
LINE = (3, ((0, 1, 0), (1, 2, 0)))
BACK = (3, ((0, 1, 0), (1, 2, 1)))
STAR = (4, ((0, 1, 0), (0, 2, 0), (0, 3, 0)))
RING = (3, ((0, 1, 0), (1, 2, 1), (0, 2, 2)))
LONG_RING = (4, ((0, 1, 0), (1, 2, 2), (2, 3, 2), (0, 3, 0)))
TWICE = (2, ((0, 1, 0), (0, 1, 1), (0, 1, 2)))
FAR = (5, ((0, 1, 0), (2, 3, 2), (3, 4, 0)))
GAPPY = (6, ((0, 2, 2), (2, 5, 0)))
INWARD = (2, ((0, 1, 1),))
WIDE = (9, ((0, 8, 0), (1, 8, 1), (2, 8, 2), (3, 7, 0), (0, 7, 2)))
FULL = (9, tuple((0, room, 0) for room in range(1, 9)) + ((1, 2, 2), (3, 4, 0), (5, 6, 1), (7, 8, 2)))

DOUBLE = (4, ((1, 2, 0), (1, 2, 1), (0, 1, 2), (0, 1, 0)))
EITHER = (3, ((0, 1, 2), (1, 2, 2)))

NAMED = [EMPTY, LONE_ROOMS, LINE, BACK, STAR, RING, LONG_RING, TWICE, FAR, GAPPY, INWARD, WIDE]


def all_walls(many):
    return [(low, high, side) for low, high in combinations(range(many), 2) for side in (0, 1, 2)]


def tiny():
    """All yards of at most 3 rooms with at most 2 walls, and those of 2 rooms with 3."""
    found = []
    for many, most in ((1, 0), (2, 3), (3, 2)):
        for size in range(most + 1):
            found.extend((many, walls) for walls in product(all_walls(many), repeat=size))
    return found


def chosen(count, rooms, walls, seed):
    """So many yards, always the same, with so many rooms and walls at most."""
    source = Random(seed)
    found = []
    for _ in range(count):
        many = source.randint(2, rooms)
        some = [source.choice(all_walls(many)) for _ in range(source.randint(1, walls))]
        if source.random() < 0.5:
            # Walls that lead away from outside more often leave an order that can be walked.
            some = [(low, high, source.choice((0, 0, 2))) for low, high, _ in some]
        found.append((many, tuple(some)))
    return found


def tree(source, rooms):
    """A tree with so many rooms at most, some of which may have no wall."""
    many = source.randint(2, rooms)
    used = source.sample(range(1, many), source.randint(1, many - 1))
    walls = []
    for at, room in enumerate(used):
        near = source.choice([0] + used[:at])
        walls.append((min(near, room), max(near, room), source.choice((int(near > room), 2))))
    source.shuffle(walls)
    return (many, tuple(walls))


def trees(count, rooms, seed):
    """So many trees, always the same, with so many rooms at most."""
    source = Random(seed)
    return [tree(source, rooms) for _ in range(count)]


def rows(yard, low, high, seed):
    """Some rows of an integer for each wall: the least and the greatest, alike ones, and a fixed choice of others."""
    source = Random(seed)
    many = len(yard[1])
    found = [(low,) * many, (high,) * many, (0,) * many]
    for span in (2, 4, high):
        found.append(tuple(source.randint(max(low, -span), span) for _ in range(many)))
        found.append(tuple(source.randint(0, span) for _ in range(many)))
    return found


def small():
    """Yards of which all orders can be looked at."""
    return NAMED + tiny() + chosen(150, 4, 4, 1) + chosen(60, 5, 5, 2)


def few():
    """Fewer yards, for tests that look at many things of each."""
    return NAMED + chosen(100, 4, 4, 3) + chosen(50, 5, 5, 4)
