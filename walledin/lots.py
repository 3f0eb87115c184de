"""Open lots: the gaps that are open at some time of an order that can be walked."""

from walledin.checks import lot_check, yard_check
from walledin.yards import can_set, every_number, rooms_come_to, sides_of, without


def bits_of(numbers):
    """Return the number that has the bit of each of some unlike numbers."""
    return sum(1 << number for number in numbers)


def growth_from(yard, starts):
    """Return what growth does, if one comes to all rooms from some rooms instead of outside."""
    near = [bits_of(sides_of(wall)) for wall in yard[1]]
    ends = [bits_of(wall[:2]) for wall in yard[1]]
    comers = {}
    # One comes to both rooms of each wall of such a lot, so these and the first rooms are all its rooms.
    rooms = {0: bits_of(starts)}
    while rooms:
        grown = {}
        for lot in rooms:
            comers[lot] = [number for number in every_number(yard)
                           if ((lot >> number) & 1) == 0 and near[number] & rooms[lot]]
            for number in comers[lot]:
                grown[lot | (1 << number)] = rooms[lot] | ends[number]
        rooms = grown
    return comers


def growth(yard):
    """Return a dict of all open lots, smaller ones first, each with the list of the walls that can come to it.

    A lot is written as the number that has the bit of each of its walls.
    """
    return growth_from(yard, (0,))


def lot_of(bits):
    """Return the lot that a number of growth stands for."""
    return tuple(number for number in range(bits.bit_length()) if (bits >> number) & 1)


def is_open(yard, lot):
    """Tell whether a lot is open."""
    return heart(yard, lot) == lot


def heart(yard, lot):
    """Return the greatest open lot within a lot."""
    come = rooms_come_to(yard, lot)
    # Every gap through which one came is kept, so one comes to the same rooms through the gaps that are kept.
    return tuple(number for number in lot if can_set(yard[1][number], come))


def all_gaps(yard):
    """Return the greatest open lot within all walls."""
    yard_check(yard)
    return heart(yard, every_number(yard))


def can_go(yard, lot):
    """Return the lot of the walls without which an open lot is open, too, None for a lot that is not open."""
    if not is_open(yard, lot):
        return None
    return tuple(number for number in lot if is_open(yard, without(lot, number)))


def can_come(yard, lot):
    """Return the lot of the other walls with which an open lot is open, too, None for a lot that is not open."""
    if not is_open(yard, lot):
        return None
    come = rooms_come_to(yard, lot)
    return tuple(number for number in every_number(yard) if number not in lot and can_set(yard[1][number], come))


def open_lots(yard):
    """Return the list of all open lots, those with fewer walls first."""
    yard_check(yard)
    lots = [lot_of(bits) for bits in growth(yard)]
    return sorted(lots, key=lambda lot: (len(lot), lot))


def count_open(yard):
    """Return the tuple, for 0, 1, .. walls, up to all, of how many open lots have so many."""
    lots = open_lots(yard)
    sizes = [len(lot) for lot in lots]
    return tuple(sizes.count(size) for size in range(len(yard[1]) + 1))


def only_open(yard, lot):
    """Return the yard with the walls of a lot alone."""
    yard_check(yard)
    lot_check(yard, lot)
    return (yard[0], tuple(yard[1][number] for number in lot))
