"""Spans, and which rooms the walls of orders cut off."""

from itertools import combinations

from walledin.checks import whole, yard_check
from walledin.counts import orders_grown
from walledin.errors import BadTree
from walledin.lots import bits_of, growth, lot_of
from walledin.orders import has_order, is_order
from walledin.yards import every_number, rooms_come_to, rooms_open_to, told_steps


def lies_among(wall, rooms):
    """Tell whether both rooms of a wall are among some rooms."""
    return wall[0] in rooms and wall[1] in rooms


def cuts(yard, order):
    """Return the pairs of a wall and of the room that it cuts off, for an order that can be walked."""
    joined = [0]
    found = []
    for number in order[::-1]:
        for room in yard[1][number][:2]:
            # The wall is set from a room that is joined, so this holds for one of its rooms at most.
            if room not in joined:
                joined.append(room)
                found.append((number, room))
    return found[::-1]


def cutters(yard, order):
    """Return the walls that cut off a room, in order, None for an order that cannot be walked."""
    if not is_order(yard, order):
        return None
    return tuple(number for number, _ in cuts(yard, order))


def tree_of(yard, order):
    """Return the lot of the walls that cut off a room, None for an order that cannot be walked."""
    found = cutters(yard, order)
    if found is None:
        return None
    return tuple(sorted(found))


def room_order(yard, order):
    """Return the rooms in the order in which they are cut off, None for an order that cannot be walked."""
    if not is_order(yard, order):
        return None
    return tuple(room for _, room in cuts(yard, order))


def is_span(yard, lot):
    """Tell whether a lot is a span."""
    come = rooms_come_to(yard, lot)
    rooms = rooms_open_to(yard, every_number(yard))
    return come == rooms and len(lot) == len(rooms) - 1


def lots_of(yard, size):
    """Return the ascending list of the lots of so many walls."""
    return list(combinations(range(len(yard[1])), size))


def spans(yard):
    """Return the ascending list of all spans."""
    yard_check(yard)
    size = len(rooms_open_to(yard, every_number(yard))) - 1
    return [lot for lot in lots_of(yard, size) if is_span(yard, lot)]


def count_spans(yard):
    """Return how many spans there are."""
    return len(spans(yard))


def orders_with_span(yard, lot):
    """Return how many orders that can be walked have a span as tree_of."""
    if not is_span(yard, lot):
        raise BadTree()
    comers = growth(yard)
    kept = {}
    for bits in comers:
        come = rooms_come_to(yard, lot_of(bits))
        # Just the walls of the span lead to a room that is not come to yet.
        kept[bits] = [number for number in comers[bits] if lies_among(yard[1][number], come) != (number in lot)]
    return orders_grown(yard, kept)


def next_rooms(steps, bits):
    """Return the rooms, each once, to which steps lead from rooms whose bits a number has."""
    found = {there: True for here, there in steps if (bits >> here) & 1 and ((bits >> there) & 1) == 0}
    return list(found)


def room_orders(yard):
    """Return the ascending list of the unlike tuples room_order of all orders that can be walked."""
    if not has_order(yard):
        return []
    steps = told_steps(yard, every_number(yard))
    # One can always join the rooms first, from the end, and read all other walls behind that: no wall is in the way.
    rows = {1: [()]}
    for _ in rooms_open_to(yard, every_number(yard))[1:]:
        longer = {}
        for bits in rows:
            for room in next_rooms(steps, bits):
                longer.setdefault(bits | (1 << room), []).extend([(room,) + row for row in rows[bits]])
        rows = longer
    return sorted(rows[bits_of(rooms_open_to(yard, every_number(yard)))])


def count_room_orders(yard):
    """Return how many unlike tuples room_order there are."""
    return len(room_orders(yard))


def orders_of_rooms(yard, rooms):
    """Return how many orders that can be walked have any value as their room_order."""
    yard_check(yard)
    if not isinstance(rooms, tuple) or not all(whole(room) for room in rooms):
        return 0
    if sorted((0,) + rooms) != list(rooms_open_to(yard, every_number(yard))):
        return 0
    comers = growth(yard)
    kept = {}
    for bits in comers:
        come = rooms_come_to(yard, lot_of(bits))
        # Read from the end, outside and the rooms behind are joined, and the only room that may follow is the next one.
        allowed = (0,) + rooms[::-1][:len(come)]
        kept[bits] = [number for number in comers[bits] if lies_among(yard[1][number], allowed)]
    return orders_grown(yard, kept)
