"""Orders that grow at random from their ends; and why an order cannot be walked."""

from walledin.checks import rises, wall_check, yard_check
from walledin.counts import all_bits, chance_sums, product_of
from walledin.lots import bits_of, can_come, growth
from walledin.orders import has_order, is_order, stuck_at
from walledin.yards import every_number, sides_of, told_distances, without


def growth_chance(yard, order):
    """Return the chance that an order grows at random, (0, 1) for one that cannot be walked."""
    if not is_order(yard, order):
        return (0, 1)
    return (1, product_of([len(can_come(yard, tuple(sorted(order[place + 1:])))) for place in range(len(order))]))


def lot_chances(yard):
    """Return a dict of all lots of growth, each with the chance that just its gaps are open at some time."""
    comers = growth(yard)
    return chance_sums(comers, {(lot, number): (1, len(comers[lot])) for lot in comers for number in comers[lot]})


def open_chance(yard, lot):
    """Return the chance that just the gaps of any value are open at some time, (0, 1) if it is no open lot."""
    yard_check(yard)
    if not rises(lot, len(yard[1])):
        return (0, 1)
    return lot_chances(yard).get(bits_of(lot), (0, 1))


def last_chance(yard, number):
    """Return the chance that a wall is read last, None if no order can be walked."""
    yard_check(yard)
    wall_check(yard, number)
    if not has_order(yard):
        return None
    # All walls are read, so this one is the last exactly if at some time just the gaps of all others are open.
    return open_chance(yard, without(every_number(yard), number))


def fewest_draws(comers):
    """Return a dict of all lots of growth, each with the least product of how many walls could be read each time.

    Beside it stands the least order with so little a product.
    """
    found = {0: (1, ())}
    for lot in comers:
        draws, order = found[lot]
        for number in comers[lot]:
            more = lot | (1 << number)
            offer = (draws * len(comers[lot]), (number,) + order)
            found[more] = min(offer, found.get(more, offer))
    return found


def likeliest(yard):
    """Return the least of the orders with the greatest chance to grow at random, None if no order can be walked."""
    yard_check(yard)
    return fewest_draws(growth(yard)).get(all_bits(yard), (None, None))[1]


def why_not(yard, order):
    """Return the place of the wall that cannot be set and the rooms that one does not come to then, or None."""
    place = stuck_at(yard, order)
    if place is None:
        return None
    come = told_distances(yard, order[place + 1:], (0,))
    return (place, tuple(room for room in range(yard[0]) if room not in come))


def sides_used(yard, number):
    """Return the ascending tuple of the rooms that a wall may be set from and that one comes to by the other gaps."""
    yard_check(yard)
    wall_check(yard, number)
    come = told_distances(yard, without(every_number(yard), number), (0,))
    return tuple(room for room in sides_of(yard[1][number]) if room in come)
