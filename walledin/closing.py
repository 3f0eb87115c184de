"""Rooms that are cut off: behind how many walls, and what lies on all ways to a room."""

from walledin.checks import inner_check, order_check, yard_check
from walledin.counts import place_ahead
from walledin.lots import growth, lot_of
from walledin.orders import has_order, is_order
from walledin.yards import every_number, free_distances, told_distances, touching, without


def cut_off(yard, order, room):
    """Return the number of walls of an order behind which a room is cut off, 0 if it never was joined to outside."""
    times = cut_times(yard, order)
    inner_check(yard, room)
    return times[room - 1]


def cut_times(yard, order):
    """Return the tuple, for the rooms 1, 2, .., of the numbers of walls behind which they are cut off."""
    yard_check(yard)
    order_check(yard, order)
    joined = [free_distances(yard, order[place:], (0,)) for place in range(len(order))]
    times = []
    for room in range(1, yard[0]):
        # A room that is cut off once stays so, so it is joined as often as walls are set until then.
        times.append(len([rooms for rooms in joined if room in rooms]))
    return tuple(times)


def is_come_to(yard, lot, room):
    """Tell whether one comes to a room from outside through the gaps of a lot, each from its wall's sides."""
    return room in told_distances(yard, lot, (0,))


def every_cut(yard, room):
    """Return the numbers of walls behind which a room is cut off in orders that can be walked, some more than once."""
    yard_check(yard)
    inner_check(yard, room)
    if not has_order(yard):
        return []
    if room in never_joined(yard):
        return [0]
    near = touching(yard, room)
    comers = growth(yard)
    found = []
    for lot in comers:
        # One comes to both rooms of each wall of such a lot, so no other room is joined through its gaps.
        if not is_come_to(yard, lot_of(lot), room) and any(number in near for number in comers[lot]):
            found.append(place_ahead(yard, lot) + 1)
    return found


def least_cut(yard, room):
    """Return the least number of walls behind which a room is cut off, over all orders, None if there is none."""
    return min(every_cut(yard, room), default=None)


def greatest_cut(yard, room):
    """Return the greatest number of walls behind which a room is cut off, over all orders, None if there is none."""
    return max(every_cut(yard, room), default=None)


def cut_together(yard, one, other):
    """Tell whether two rooms are cut off behind the same number of walls in all orders, None if there is none."""
    yard_check(yard)
    inner_check(yard, one)
    inner_check(yard, other)
    if not has_order(yard):
        return None
    gone = never_joined(yard)
    # Each wall of an order that can be walked cuts off one room at most.
    return one == other or (one in gone and other in gone)


def last_cut(yard, order):
    """Return the rooms that are cut off behind the greatest number of walls, None if the order cannot be walked."""
    if not is_order(yard, order):
        return None
    times = cut_times(yard, order)
    most = max(times, default=0)
    return tuple(room for room in range(1, yard[0]) if times[room - 1] == most)


def never_joined(yard):
    """Return the rising tuple of the rooms from which one cannot walk to outside ahead of any wall."""
    yard_check(yard)
    joined = free_distances(yard, every_number(yard), (0,))
    return tuple(room for room in range(yard[0]) if room not in joined)


def room_gates(yard, room):
    """Return the lot of the walls through whose gaps all ways to a room go, None if it is not come to."""
    yard_check(yard)
    inner_check(yard, room)
    every = every_number(yard)
    if not is_come_to(yard, every, room):
        return None
    return tuple(number for number in every if not is_come_to(yard, without(every, number), room))


def away_from(yard, room):
    """Return the lot of the walls that are not at a room."""
    near = touching(yard, room)
    return tuple(number for number in every_number(yard) if number not in near)


def rooms_between(yard, room):
    """Return the rising tuple of the other rooms, but outside, that all ways to a room go through, or None."""
    yard_check(yard)
    inner_check(yard, room)
    if not is_come_to(yard, every_number(yard), room):
        return None
    return tuple(other for other in range(1, yard[0])
                 if other != room and not is_come_to(yard, away_from(yard, other), room))
