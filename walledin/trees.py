"""Trees: yards in which one comes to each room in just one way."""

from walledin.checks import row_check, yard_check
from walledin.counts import all_bits, count_orders, place_counts, ratio
from walledin.dues import least_sums
from walledin.errors import NotTree
from walledin.lots import growth, lot_of
from walledin.orders import is_order
from walledin.spans import is_span
from walledin.ways import come_without, last_gate
from walledin.yards import every_number

MOST_WEIGHT = 1000


def is_tree(yard):
    """Tell whether a yard is a tree."""
    yard_check(yard)
    # So few walls leave no second way, and no wall that is not joined to outside; told sides lead away from outside.
    return is_span(yard, every_number(yard))


def tree_check(yard):
    """Raise BadYard for a value that is no yard, NotTree for a yard that is no tree."""
    if not is_tree(yard):
        raise NotTree()


def hanging(yard):
    """Return the tuple, for each wall, of how many walls one comes to through its gap alone, itself included."""
    tree_check(yard)
    return tuple(len(yard[1]) - len(come_without(yard, number)) for number in every_number(yard))


def tree_orders(yard):
    """Return how many orders of a tree can be walked."""
    tree_check(yard)
    return count_orders(yard)


def tree_gate(yard, number):
    """Return the last gate of a wall of a tree, None if there is none."""
    tree_check(yard)
    return last_gate(yard, number)


def first_chance(yard, number):
    """Return the ratio of the orders of a tree in which a wall is the last one of all to all orders."""
    tree_check(yard)
    counts = place_counts(yard, number)
    return ratio(counts[-1], sum(counts))


def order_of_tree(yard, order):
    """Tell whether an order of a tree can be walked."""
    tree_check(yard)
    return is_order(yard, order)


def tree_cost(yard, weights):
    """Return the least sum, over all orders of a tree, of weights times numbers from the end."""
    tree_check(yard)
    row_check(yard, weights, 0, MOST_WEIGHT)
    comers = growth(yard)
    prices = {(lot, number): weights[number] * (len(lot_of(lot)) + 1) for lot in comers for number in comers[lot]}
    return least_sums(comers, prices)[all_bits(yard)]
