"""Orders: in which the walls are set one after the other."""

from walledin.checks import order_check, room_check, yard_check
from walledin.lots import can_go, is_open
from walledin.yards import every_number, rooms_open_to, sides_of, without


def back_stands(yard, order, starts):
    """Return, from the last wall on, the least rooms from which walls may be set, up to the first that cannot be.

    They are rooms that one comes to from some rooms through the gaps of the walls behind.
    """
    come = list(starts)
    found = []
    for number in order[::-1]:
        wall = yard[1][number]
        near = [room for room in sides_of(wall) if room in come]
        if not near:
            break
        found.append(near[0])
        come.extend(wall[:2])
    return found


def is_order(yard, order):
    """Tell whether an order can be walked."""
    return stuck_at(yard, order) is None


def can_walk(yard, order, room):
    """Tell whether a mason who begins in a room can walk an order."""
    yard_check(yard)
    order_check(yard, order)
    room_check(yard, room)
    # The first stand of an order that can be walked is open to outside, so a way to outside leads to it.
    return is_order(yard, order) and room in rooms_open_to(yard, every_number(yard))


def stuck_at(yard, order):
    """Return the greatest place of a wall that cannot be set with the gaps behind it, None if there is none."""
    yard_check(yard)
    order_check(yard, order)
    left = len(order) - len(back_stands(yard, order, (0,)))
    if left == 0:
        return None
    return left - 1


def stands(yard, order):
    """Return the tuple of the least rooms for the walls of an order that can be walked, None for another order."""
    if not is_order(yard, order):
        return None
    return tuple(back_stands(yard, order, (0,))[::-1])


def has_order(yard):
    """Tell whether some order can be walked."""
    yard_check(yard)
    return is_open(yard, every_number(yard))


def order_by(yard, at):
    """Return the order that sets, each time, the item at of can_go, None if no order can be walked."""
    if not has_order(yard):
        return None
    left = every_number(yard)
    order = []
    while left:
        # An open lot that is not empty always has a wall that can go, and is open without it.
        chosen = can_go(yard, left)[at]
        order.append(chosen)
        left = without(left, chosen)
    return tuple(order)


def first_order(yard):
    """Return the least of the orders that can be walked, None if there is none."""
    return order_by(yard, 0)


def last_order(yard):
    """Return the greatest of the orders that can be walked, None if there is none."""
    return order_by(yard, -1)
