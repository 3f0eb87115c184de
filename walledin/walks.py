"""Walks: how many steps a mason needs to set the walls of orders."""

from walledin.checks import order_check, room_check, yard_check
from walledin.counts import all_bits
from walledin.lots import growth, lot_of
from walledin.orders import can_walk, first_order, is_order
from walledin.yards import free_steps, sides_of


def walks_towards(steps, goals):
    """Return a dict of the rooms from which steps lead to a goal, each with the best of the pairs that it so gets.

    The goals are a dict of rooms with pairs, the first item of which is how many steps the mason still needs; each
    step to a goal adds one to it.
    """
    found = {room: goals[room] for room in goals}
    row = list(found)
    while row:
        behind = []
        for room in row:
            offer = (found[room][0] + 1, found[room][1])
            for here, there in steps:
                if there == room and (here not in found or offer < found[here]):
                    found[here] = offer
                    behind.append(here)
        row = behind
    return found


def best_walks(yard, order):
    """Return a dict of the rooms from which an order can be walked, each with the fewest steps and the least stands."""
    found = {0: (0, ())}
    for place in reversed(range(len(order))):
        near = sides_of(yard[1][order[place]])
        # The gaps of a mason who walks to a wall are open up to that of this wall itself.
        goals = {room: (found[room][0], (room,) + found[room][1]) for room in near if room in found}
        found = walks_towards(free_steps(yard, order[place:]), goals)
    return found


def best_walk(yard, order, room):
    """Return the pair of the fewest steps of an order from a room and of the least stands with so few, or two None."""
    yard_check(yard)
    order_check(yard, order)
    room_check(yard, room)
    return best_walks(yard, order).get(room, (None, None))


def walk_length(yard, order, room):
    """Return the fewest steps with which an order can be walked from a room, None if it cannot."""
    return best_walk(yard, order, room)[0]


def mason_rooms(yard, order, room):
    """Return the least tuple of the rooms from which the walls are set with the fewest steps, None if there is none."""
    return best_walk(yard, order, room)[1]


def short_walks(yard):
    """Return a dict of the rooms from which some order can be walked, each with the fewest steps and the least order.

    The least order is that of the orders with so few steps.
    """
    comers = growth(yard)
    found = {lot: {} for lot in comers}
    found[0][0] = (0, ())
    for lot in comers:
        found[lot] = walks_towards(free_steps(yard, lot_of(lot)), found[lot])
        for number in comers[lot]:
            more = found[lot | (1 << number)]
            for room in sides_of(yard[1][number]):
                if room in found[lot]:
                    offer = (found[lot][room][0], (number,) + found[lot][room][1])
                    more[room] = min(offer, more.get(room, offer))
    return found.get(all_bits(yard), {})


def short_walk(yard, room):
    """Return the pair of the fewest steps from a room and of the least order with so few, or (None, None)."""
    yard_check(yard)
    room_check(yard, room)
    return short_walks(yard).get(room, (None, None))


def least_walk(yard, room):
    """Return the fewest steps from a room over all orders, None if no order can be walked from there."""
    return short_walk(yard, room)[0]


def short_order(yard, room):
    """Return the least of the orders with the fewest steps from a room, None if none can be walked from there."""
    return short_walk(yard, room)[1]


def walks_well(yard, order, room):
    """Tell whether an order is one with the fewest steps from a room."""
    steps = walk_length(yard, order, room)
    return steps is not None and steps == least_walk(yard, room)


def least_start(yard):
    """Return the least of the rooms from which the fewest steps are needed, None if no order can be walked."""
    yard_check(yard)
    walks = short_walks(yard)
    if not walks:
        return None
    least = min(walks[room][0] for room in walks)
    return min(room for room in walks if walks[room][0] == least)


def has_walk(yard, room):
    """Tell whether some order can be walked from a room."""
    yard_check(yard)
    room_check(yard, room)
    order = first_order(yard)
    # Whether a room is joined to outside does not depend on the order.
    return order is not None and can_walk(yard, order, room)


def stays_put(yard, order):
    """Return the places of walls that may be set from one room with the next one, None if the order has no walk."""
    if not is_order(yard, order):
        return None
    found = []
    for place in range(len(order) - 1):
        near = sides_of(yard[1][order[place + 1]])
        if any(room in near for room in sides_of(yard[1][order[place]])):
            found.append(place)
    return tuple(found)
