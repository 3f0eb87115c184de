"""Yards that leave the same orders, and what changes with other sides, more walls or fewer."""

from walledin.checks import MOST_WALLS, most_check, number_check, wall_check, walls_check, yard_check
from walledin.counts import count_orders
from walledin.lots import open_lots
from walledin.orders import has_order
from walledin.traps import least_traps
from walledin.yards import every_number, with_side


def same_orders(one, other):
    """Tell whether two yards have as many walls and the same orders that can be walked."""
    yard_check(one)
    yard_check(other)
    if len(one[1]) != len(other[1]) or has_order(one) != has_order(other):
        return False
    # The walls at the ends of the orders make up all open lots, which in turn tell the orders, if there are any.
    return not has_order(one) or open_lots(one) == open_lots(other)


def orders_lost(yard, number, side):
    """Return how many orders fewer there are if a wall may be set from a side alone than if from either."""
    yard_check(yard)
    wall_check(yard, number)
    number_check(side, 0, 1)
    return count_orders(with_side(yard, number, 2)) - count_orders(with_side(yard, number, side))


def first_same(yard, number, choice, lots):
    """Return the yard with the first side of a choice for a wall with which just some lots are open, or as it is."""
    for side in choice:
        changed = with_side(yard, number, side)
        if open_lots(changed) == lots:
            return changed
    return yard


def tight(yard):
    """Return the yard in which walls in turn get one side for either, where the same lots are open."""
    lots = open_lots(yard)
    found = yard
    for number in every_number(yard):
        if yard[1][number][2] == 2:
            found = first_same(found, number, (0, 1), lots)
    return found


def loose(yard):
    """Return the yard in which walls in turn may be set from either side, where the same lots are open."""
    lots = open_lots(yard)
    found = yard
    for number in every_number(yard):
        found = first_same(found, number, (2,), lots)
    return found


def added(yard, walls):
    """Return the yard with some walls behind its own."""
    yard_check(yard)
    walls_check(yard, walls)
    most_check(len(yard[1]) + len(walls), MOST_WALLS)
    return (yard[0], yard[1] + walls)


def taken_out(yard, number):
    """Return the yard without a wall."""
    yard_check(yard)
    wall_check(yard, number)
    return (yard[0], yard[1][:number] + yard[1][number + 1:])


def orders_without(yard, number):
    """Return how many orders of the yard without a wall can be walked."""
    return count_orders(taken_out(yard, number))


def fewest_added(yard):
    """Return the least number of walls that, added, leave an order that can be walked."""
    return len(least_traps(yard))


def least_added(yard):
    """Return the ascending tuple of the walls from outside to the first rooms of all traps of least_traps."""
    return tuple(sorted([(0, rooms[0], 0) for rooms in least_traps(yard)]))
