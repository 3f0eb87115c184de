"""All orders that can be walked: how many there are, which one stands where, and where walls stand in them."""

from math import gcd

from walledin.checks import order_check, rank_check, unlike_check, wall_check, yard_check
from walledin.lots import growth, lot_of
from walledin.orders import is_order


def all_bits(yard):
    """Return the number of growth that stands for all walls."""
    return (1 << len(yard[1])) - 1


def grown_counts(comers):
    """Return a dict of the lots that grow by some comers alone, as in growth, each with in how many orders it does."""
    found = {0: 1}
    for lot in comers:
        if lot in found:
            for number in comers[lot]:
                more = lot | (1 << number)
                found[more] = found.get(more, 0) + found[lot]
    return found


def orders_grown(yard, comers):
    """Return how many orders of all walls grow by some comers alone."""
    return grown_counts(comers).get(all_bits(yard), 0)


def order_grown(yard, comers, rank):
    """Return the order of those that grow by some comers that so many stand ahead of, None if there are not so many."""
    grown = grown_counts(comers)
    left = all_bits(yard)
    if rank >= grown.get(left, 0):
        return None
    order = []
    while left:
        for number in lot_of(left):
            chosen = number
            rest = left - (1 << number)
            many = 0
            if number in comers.get(rest, ()):
                many = grown.get(rest, 0)
            if rank < many:
                break
            rank -= many
        order.append(chosen)
        left -= 1 << chosen
    return tuple(order)


def place_ahead(yard, lot):
    """Return the place of a wall that just the walls of a lot of growth stand behind."""
    return len(yard[1]) - 1 - len(lot_of(lot))


def growth_within(yard, windows):
    """Return growth, but with each wall only where it gets a place from the low to the high one of its window."""
    comers = growth(yard)
    found = {}
    for lot in comers:
        place = place_ahead(yard, lot)
        found[lot] = [number for number in comers[lot] if windows[number][0] <= place <= windows[number][1]]
    return found


def rest_counts(yard, comers):
    """Return a dict of all open lots of growth, each with in how many orders the other walls can stand ahead of it."""
    found = {}
    for lot in list(comers)[::-1]:
        if lot == all_bits(yard):
            found[lot] = 1
        else:
            found[lot] = sum(found[lot | (1 << number)] for number in comers[lot])
    return found


def orders_behind(yard):
    """Return triples of a lot of growth, of a wall, and of in how many orders just this lot stands behind the wall."""
    comers = growth(yard)
    grown = grown_counts(comers)
    rest = rest_counts(yard, comers)
    return [(lot, number, grown[lot] * rest[lot | (1 << number)]) for lot in comers for number in comers[lot]]


def place_rows(yard):
    """Return the list, for all walls, of the lists of in how many orders they stand at each place."""
    rows = [[0] * len(yard[1]) for _ in yard[1]]
    for lot, number, orders in orders_behind(yard):
        rows[number][place_ahead(yard, lot)] += orders
    return rows


def ratio(top, low):
    """Return the ratio of two numbers, the second of which is above 0."""
    common = gcd(top, low)
    return (top // common, low // common)


def plus(one, other):
    """Return the sum of two ratios."""
    return ratio(one[0] * other[1] + other[0] * one[1], one[1] * other[1])


def product_of(numbers):
    """Return the product of some numbers."""
    found = 1
    for number in numbers:
        found = found * number
    return found


def chance_sums(comers, shares):
    """Return a dict of all lots of growth, each with the sum of the chances with which it grows.

    The shares are a dict of pairs of a lot and of a wall that comes to it, each with the ratio of the chance of the lot
    that goes on to the lot with that wall.
    """
    found = {lot: (0, 1) for lot in comers}
    found[0] = (1, 1)
    for lot in comers:
        top, low = found[lot]
        for number in comers[lot]:
            more = lot | (1 << number)
            share = shares[(lot, number)]
            found[more] = plus(found[more], (top * share[0], low * share[1]))
    return found


def exchanged(order, place):
    """Return an order with the wall at a place and the next one exchanged."""
    return order[:place] + (order[place + 1], order[place]) + order[place + 2:]


def count_orders(yard):
    """Return how many orders can be walked."""
    yard_check(yard)
    return orders_grown(yard, growth(yard))


def order_at(yard, rank):
    """Return the order that so many orders stand ahead of, None if there are not so many."""
    yard_check(yard)
    rank_check(rank)
    return order_grown(yard, growth(yard), rank)


def rank_of(yard, order):
    """Return how many orders stand ahead of one, None for an order that cannot be walked."""
    if not is_order(yard, order):
        return None
    grown = grown_counts(growth(yard))
    left = all_bits(yard)
    rank = 0
    for number in order:
        rank += sum(grown.get(left - (1 << other), 0) for other in lot_of(left) if other < number)
        left -= 1 << number
    return rank


def next_order(yard, order):
    """Return the order behind one, None for the last one and for one that cannot be walked."""
    rank = rank_of(yard, order)
    if rank is None:
        return None
    return order_at(yard, rank + 1)


def place_counts(yard, number):
    """Return the tuple, for each place, of in how many orders a wall stands there."""
    yard_check(yard)
    wall_check(yard, number)
    return tuple(place_rows(yard)[number])


def mean_place(yard, number):
    """Return the mean place of a wall over all orders, None if there is no order."""
    counts = place_counts(yard, number)
    if sum(counts) == 0:
        return None
    return ratio(sum(place * orders for place, orders in enumerate(counts)), sum(counts))


def ahead_chance(yard, one, other):
    """Return the part of all orders in which a wall stands ahead of another one, None if there is no order."""
    yard_check(yard)
    unlike_check(yard, one, other)
    rows = [(lot, orders) for lot, number, orders in orders_behind(yard) if number == one]
    total = sum(orders for _, orders in rows)
    if total == 0:
        return None
    return ratio(sum(orders for lot, orders in rows if (lot >> other) & 1), total)


def swaps(yard, order):
    """Return the rising tuple of the places whose wall can be exchanged with the next one for an order to be walked."""
    yard_check(yard)
    order_check(yard, order)
    return tuple(place for place in range(len(order) - 1) if is_order(yard, exchanged(order, place)))
