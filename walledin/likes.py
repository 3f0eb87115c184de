"""Yards that are alike but for the names of rooms and the order of walls; and orders that are near one another."""

from itertools import permutations
from math import factorial

from walledin.checks import most_check, order_check, yard_check
from walledin.glue import new_walls
from walledin.orders import is_order

MOST_ROOMS_TO_NAME = 6
MOST_WALLS_TO_SWAP = 8


def names_of(yard):
    """Return the ascending list of the tuples of new names that the rooms 1, 2, .. can get."""
    return list(permutations(range(1, yard[0])))


def rooms_few(yard):
    """Raise TooMany for a yard with more rooms than are renamed here."""
    most_check(yard[0], MOST_ROOMS_TO_NAME)


def alike(one, other):
    """Tell whether renaming rooms but outside, and another order of the walls, make one yard the other one."""
    # Too many rooms of the one come behind what is wrong with the other.
    yard_check(one)
    yard_check(other)
    return first_like(one) == first_like(other)


def symmetries(yard):
    """Return the ascending list of the tuples of new names that leave the yard with the same walls, in some order."""
    yard_check(yard)
    rooms_few(yard)
    walls = sorted(yard[1])
    return [rooms for rooms in names_of(yard) if sorted(new_walls(yard, rooms)) == walls]


def classes(yard):
    """Return the tuple of the tuples of rooms that can take one another's names, by their least rooms."""
    same = symmetries(yard)
    found = [(0,)]
    for room in range(1, yard[0]):
        if not any(room in row for row in found):
            names = {rooms[room - 1]: True for rooms in same}
            found.append(tuple(sorted(names)))
    return tuple(found)


def fixed_rooms(yard):
    """Return the rising tuple of the rooms that can take no other room's name."""
    return tuple(row[0] for row in classes(yard) if len(row) == 1)


def count_alike(yard):
    """Return how many yards, no two with the same walls in some order, are alike to a yard."""
    # Each of them comes of as many tuples of new names as there are symmetries.
    same = len(symmetries(yard))
    return factorial(yard[0] - 1) // same


def first_like(yard):
    """Return the yard, of all that are alike, with the least tuple of walls."""
    yard_check(yard)
    rooms_few(yard)
    return (yard[0], tuple(min([sorted(new_walls(yard, rooms)) for rooms in names_of(yard)])))


def swaps_between(yard, one, other):
    """Return by how few exchanges of neighbors an order becomes another one, None if one of both cannot be walked."""
    pairs = unlike_pairs(yard, one, other)
    most_check(len(yard[1]), MOST_WALLS_TO_SWAP)
    if not is_order(yard, one) or not is_order(yard, other):
        return None
    # Each exchange turns one pair round. And each pair need be turned just once: the wall that is the last of the other
    # order may be set from outside, so nothing bars it on its way to the end, nor the next one on its way to the place
    # ahead of it, and so on, and none of them passes a wall that it stands ahead of in the other order.
    return pairs


def unlike_pairs(yard, one, other):
    """Return how many pairs of walls stand the other way round in two orders."""
    yard_check(yard)
    order_check(yard, one)
    order_check(yard, other)
    times = [other.index(number) for number in one]
    return len([place for place in range(len(times)) for time in times[:place] if time > times[place]])
