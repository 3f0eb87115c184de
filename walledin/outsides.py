"""Other rooms than outside in which masons stand at last, and teams of masons."""

from itertools import combinations

from walledin.checks import ends_check, order_check, yard_check
from walledin.counts import orders_grown
from walledin.lots import growth_from
from walledin.orders import back_stands
from walledin.yards import can_set, every_number, told_distances


def sets_all(yard, order, ends):
    """Tell whether masons with some ends can set all walls in an order: each from a room that one then comes to."""
    return len(back_stands(yard, order, ends)) == len(order)


def is_order_with(yard, order, ends):
    """Tell whether a mason can set all walls in an order and stand in one of the ends at last."""
    rooms = ends_of(yard, order)
    ends_check(yard, ends)
    return any(room in ends for room in rooms)


def ends_of(yard, order):
    """Return the rising tuple of the rooms in which a mason can stand at last who sets the walls in an order."""
    yard_check(yard)
    order_check(yard, order)
    return tuple(room for room in range(yard[0]) if sets_all(yard, order, (room,)))


def good_ends(yard):
    """Return the rising tuple of the rooms in which a mason can stand at the end of some order."""
    yard_check(yard)
    return tuple(room for room in range(yard[0]) if has_team(yard, (room,)))


def has_order_at(yard, end):
    """Tell whether a mason can stand in a room at the end of some order."""
    return has_team(yard, (end,))


def team_can(yard, order, ends):
    """Tell whether a team can set all walls in an order."""
    yard_check(yard)
    order_check(yard, order)
    ends_check(yard, ends)
    return sets_all(yard, order, ends)


def has_team(yard, ends):
    """Tell whether a team can set all walls in some order."""
    yard_check(yard)
    ends_check(yard, ends)
    come = told_distances(yard, every_number(yard), ends)
    return all(can_set(wall, come) for wall in yard[1])


def count_team_orders(yard, ends):
    """Return in how many orders a team can set all walls."""
    yard_check(yard)
    ends_check(yard, ends)
    return orders_grown(yard, growth_from(yard, ends))


def ends_of_size(yard, size):
    """Return the list of all ends of so many rooms, as Python compares tuples."""
    return list(combinations(range(yard[0]), size))


def least_teams(yard):
    """Return the list of the smallest ends for which a team can set all walls, as Python compares tuples."""
    yard_check(yard)
    teams = []
    for size in range(1, yard[0] + 1):
        teams.extend([ends for ends in ends_of_size(yard, size) if has_team(yard, ends)])
    # With all rooms as its ends a team always can, so there is one.
    return [ends for ends in teams if len(ends) == len(teams[0])]


def fewest_masons(yard):
    """Return how many masons the smallest teams have that can set all walls."""
    return len(least_teams(yard)[0])
