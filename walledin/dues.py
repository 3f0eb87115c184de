"""Dues and weights: the delays of orders, and their costs."""

from walledin.checks import order_check, row_check, yard_check
from walledin.counts import all_bits, growth_within, order_grown, orders_grown, place_ahead
from walledin.lots import can_come, growth
from walledin.orders import has_order

MOST = 1000


def least_sums(comers, prices):
    """Return a dict of all lots of growth, each with the least sum of prices with which it grows.

    The prices are a dict of pairs of a lot and of a wall that comes to it.
    """
    found = {0: 0}
    for lot in comers:
        for number in comers[lot]:
            more = lot | (1 << number)
            total = found[lot] + prices[(lot, number)]
            if more not in found or total < found[more]:
                found[more] = total
    return found


def cheap_comers(comers, prices):
    """Return growth, but with just the comers by which lots grow with the least sums of prices."""
    least = least_sums(comers, prices)
    found = {}
    for lot in comers:
        found[lot] = [number for number in comers[lot]
                      if least[lot] + prices[(lot, number)] == least[lot | (1 << number)]]
    return found


def costs(yard, comers, weights):
    """Return the prices of all comers of growth: their weights times their times."""
    return {(lot, number): weights[number] * (place_ahead(yard, lot) + 1) for lot in comers for number in comers[lot]}


def delay(yard, order, dues):
    """Return the greatest delay of an order, None without walls."""
    yard_check(yard)
    order_check(yard, order)
    row_check(yard, dues, -MOST, MOST)
    return max([place + 1 - dues[number] for place, number in enumerate(order)], default=None)


def least_delay(yard, dues):
    """Return the least greatest delay of all orders that can be walked, None without walls or such an order."""
    order = due_order(yard, dues)
    if order is None:
        return None
    return delay(yard, order, dues)


def due_order(yard, dues):
    """Return the order made from its end by the greatest dues, None if no order can be walked."""
    yard_check(yard)
    row_check(yard, dues, -MOST, MOST)
    if not has_order(yard):
        return None
    order = ()
    while len(order) < len(yard[1]):
        chosen = max(can_come(yard, tuple(sorted(order))), key=lambda number: (dues[number], number))
        order = (chosen,) + order
    return order


def in_time(yard, dues):
    """Return how many orders that can be walked have no delay above 0."""
    yard_check(yard)
    row_check(yard, dues, -MOST, MOST)
    return orders_grown(yard, growth_within(yard, tuple((0, due - 1) for due in dues)))


def least_cost(yard, weights):
    """Return the least cost of the orders that can be walked, None if there is none."""
    yard_check(yard)
    row_check(yard, weights, -MOST, MOST)
    comers = growth(yard)
    return least_sums(comers, costs(yard, comers, weights)).get(all_bits(yard))


def growth_for_least(yard, weights):
    """Return growth, but by least costs alone."""
    yard_check(yard)
    row_check(yard, weights, -MOST, MOST)
    comers = growth(yard)
    return cheap_comers(comers, costs(yard, comers, weights))


def cheap_order(yard, weights):
    """Return the least of the orders that can be walked with the least cost, None if there is none."""
    return order_grown(yard, growth_for_least(yard, weights), 0)


def count_cheap(yard, weights):
    """Return how many of the orders that can be walked have the least cost."""
    return orders_grown(yard, growth_for_least(yard, weights))
