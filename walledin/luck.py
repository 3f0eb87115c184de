"""Luck: how a random mason fares; and warmth: how many rooms are open while walls are set."""

from walledin.checks import order_check, room_check, yard_check
from walledin.counts import all_bits, chance_sums, order_grown
from walledin.dues import cheap_comers, least_sums
from walledin.lots import growth, lot_of
from walledin.walks import has_walk
from walledin.yards import every_number, free_distances, rooms_come_to, sides_of


def moves_from(yard, lot, room):
    """Return the pairs of a wall and a room from which a mason in a room can set it if the gaps of a lot are open."""
    near = free_distances(yard, lot, (room,))
    return [(number, side) for number in lot for side in sides_of(yard[1][number]) if side in near]


def first_moves(yard, room):
    """Return the ascending pairs of the walls that a mason in a room can set next, and of the rooms to do so from."""
    yard_check(yard)
    room_check(yard, room)
    return tuple(moves_from(yard, every_number(yard), room))


def luck(yard, room):
    """Return the chance that a random mason sets all walls and stands outside."""
    if not has_walk(yard, room):
        return (0, 1)
    comers = growth(yard)
    # Only through open lots, and where outside can be walked to, the mason gets on: all such rooms have one chance,
    # as one walks from each to all sides of the walls of the lot.
    moves = {lot: len(moves_from(yard, lot_of(lot), 0)) for lot in comers}
    shares = {}
    for lot in comers:
        come = rooms_come_to(yard, lot_of(lot))
        for number in comers[lot]:
            good = [side for side in sides_of(yard[1][number]) if side in come]
            shares[(lot, number)] = (len(good), moves[lot | (1 << number)])
    return chance_sums(comers, shares)[all_bits(yard)]


def warmth(yard, order):
    """Return the sum, over all walls, of how many rooms but outside are open to outside when a wall is just set."""
    yard_check(yard)
    order_check(yard, order)
    return sum(len(free_distances(yard, order[place + 1:], (0,))) - 1 for place in range(len(order)))


def warm_prices(yard, comers):
    """Return the prices of all comers of growth: how many rooms but outside the gaps behind them leave open."""
    found = {}
    for lot in comers:
        come = rooms_come_to(yard, lot_of(lot))
        for number in comers[lot]:
            found[(lot, number)] = len(come) - 1
    return found


def least_warmth(yard):
    """Return the least warmth of the orders that can be walked, None if there is none."""
    yard_check(yard)
    comers = growth(yard)
    return least_sums(comers, warm_prices(yard, comers)).get(all_bits(yard))


def greatest_warmth(yard):
    """Return the greatest warmth of the orders that can be walked, None if there is none."""
    yard_check(yard)
    comers = growth(yard)
    prices = warm_prices(yard, comers)
    found = least_sums(comers, {step: -prices[step] for step in prices}).get(all_bits(yard))
    if found is None:
        return None
    return -found


def cool_order(yard):
    """Return the least of the orders that can be walked with the least warmth, None if there is none."""
    yard_check(yard)
    comers = growth(yard)
    return order_grown(yard, cheap_comers(comers, warm_prices(yard, comers)), 0)
