"""Windows: orders whose walls stand at told places, and the places of all walls."""

from walledin.checks import MOST_WALLS, number_check, windows_check, yard_check
from walledin.counts import growth_within, order_grown, orders_grown, place_rows
from walledin.yards import every_number


def orders_within(yard, windows):
    """Return how many orders that can be walked have each wall at a place of its window."""
    yard_check(yard)
    windows_check(yard, windows)
    return orders_grown(yard, growth_within(yard, windows))


def first_within(yard, windows):
    """Return the least order that can be walked with each wall at a place of its window, None if there is none."""
    yard_check(yard)
    windows_check(yard, windows)
    return order_grown(yard, growth_within(yard, windows), 0)


def walls_at(yard, place):
    """Return the lot of the walls that stand at a place in some order that can be walked."""
    yard_check(yard)
    number_check(place, 0, MOST_WALLS - 1)
    if place >= len(yard[1]):
        return ()
    rows = place_rows(yard)
    return tuple(number for number in every_number(yard) if rows[number][place] > 0)


def place_table(yard):
    """Return the tuple, for each wall, of the tuple of in how many orders it stands at each place."""
    yard_check(yard)
    return tuple(tuple(row) for row in place_rows(yard))
