"""Ways to walls from outside, the times of walls, and which walls are always ahead of others."""

from walledin.checks import most_check, unlike_check, wall_check, yard_check
from walledin.lots import all_gaps, heart
from walledin.orders import has_order
from walledin.yards import every_number, sides_of, told_steps, without

MOST_WAYS = 3000


def longer_rows(yard, rows):
    """Return all rows of gaps that go on from some rows by one more gap; a row is a pair of its gaps and its rooms."""
    found = []
    for gaps, rooms in rows:
        for number in every_number(yard):
            for here, there in told_steps(yard, (number,)):
                if here == rooms[-1] and there not in rooms:
                    found.append((gaps + (number,), rooms + (there,)))
    return found


def every_way(yard, number):
    """Return the list of all ways to a wall, shorter ones first, however many there are."""
    goals = sides_of(yard[1][number])
    found = []
    rows = [((), (0,))]
    while rows:
        # A row ends at the first goal, and from goals alone one goes through the wall's own gap: no row does so.
        found.extend([gaps + (number,) for gaps, rooms in rows if rooms[-1] in goals])
        rows = longer_rows(yard, [(gaps, rooms) for gaps, rooms in rows if rooms[-1] not in goals])
    return sorted(found, key=lambda way: (len(way), way))


def ways(yard, number):
    """Return the list of all ways to a wall, shorter ones first."""
    yard_check(yard)
    wall_check(yard, number)
    found = every_way(yard, number)
    most_check(len(found), MOST_WAYS)
    return found


def shortest_way(yard, number):
    """Return the first one of all ways to a wall, None if there is none."""
    yard_check(yard)
    wall_check(yard, number)
    found = every_way(yard, number)
    if not found:
        return None
    return found[0]


def least_back(yard, number):
    """Return the least number, from the end, that a wall has in growths, None if it is not come to."""
    way = shortest_way(yard, number)
    if way is None:
        return None
    return len(way)


def come_without(yard, number):
    """Return the lot of the walls that are come to in the yard without a wall."""
    return heart(yard, without(every_number(yard), number))


def greatest_back(yard, number):
    """Return the greatest number, from the end, that a wall has in growths, None if it is not come to."""
    yard_check(yard)
    wall_check(yard, number)
    if number not in all_gaps(yard):
        return None
    return 1 + len(come_without(yard, number))


def places(yard, number):
    """Return the rising tuple of the places of a wall in orders that can be walked, None if there is none."""
    yard_check(yard)
    wall_check(yard, number)
    if not has_order(yard):
        return None
    many = len(yard[1])
    return tuple(range(many - greatest_back(yard, number), many - least_back(yard, number) + 1))


def always_ahead(yard, one, other):
    """Tell whether the wall other is come to, but not without the wall one."""
    yard_check(yard)
    unlike_check(yard, one, other)
    return other in all_gaps(yard) and other not in come_without(yard, one)


def gates(yard, number):
    """Return the tuple of all walls that are always ahead of a wall, as each way to it goes through them."""
    way = shortest_way(yard, number)
    if way is None:
        return ()
    return tuple(gap for gap in way[:-1] if always_ahead(yard, gap, number))


def last_gate(yard, number):
    """Return the last one of the gates of a wall, None if there is none."""
    found = gates(yard, number)
    if not found:
        return None
    return found[-1]


def gate_table(yard):
    """Return the tuple of the last gates of all walls."""
    yard_check(yard)
    return tuple(last_gate(yard, number) for number in every_number(yard))


def hanging_on(yard, number):
    """Return the lot of the walls that a wall is always ahead of."""
    yard_check(yard)
    wall_check(yard, number)
    others = without(every_number(yard), number)
    return tuple(other for other in others if always_ahead(yard, number, other))


def free_ones(yard):
    """Return the lot of the walls that are come to and always ahead of no other one."""
    return tuple(number for number in all_gaps(yard) if not hanging_on(yard, number))


def both_first(yard, one, other):
    """Tell whether two walls are both come to, and none is always ahead of the other one."""
    yard_check(yard)
    unlike_check(yard, one, other)
    come = all_gaps(yard)
    if one not in come or other not in come:
        return False
    return not always_ahead(yard, one, other) and not always_ahead(yard, other, one)
