"""Sides chosen for walls: which choices leave an order, and which sides must change."""

from walledin.checks import chance_check, lot_check, sides_check, yard_check
from walledin.counts import product_of, ratio
from walledin.orders import has_order
from walledin.spans import lots_of
from walledin.yards import rooms_open_to, other_way


def sided(yard, row):
    """Return the yard with other sides, one for each wall."""
    return (yard[0], tuple((low, high, side) for (low, high, _), side in zip(yard[1], row)))


def with_sides(yard, sides):
    """Return the yard with other sides, a tuple of 0, 1 or 2 for each wall."""
    yard_check(yard)
    sides_check(yard, sides)
    return sided(yard, sides)


def sides_of_yard(yard):
    """Return the tuple of the sides of all walls."""
    yard_check(yard)
    return tuple(wall[2] for wall in yard[1])


def turned(yard, lot):
    """Return the yard in which the walls of a lot may be set from their other side, those with one side alone."""
    yard_check(yard)
    lot_check(yard, lot)
    walls = list(yard[1])
    for number in lot:
        walls[number] = other_way(walls[number])
    return (yard[0], tuple(walls))


def side_rows(yard, some):
    """Return the list of all tuples of one of some sides for each wall, ascending if these are."""
    rows = [()]
    for _ in yard[1]:
        rows = [row + (side,) for row in rows for side in some]
    return rows


def choices(yard):
    """Return the ascending list of the choices that leave an order."""
    yard_check(yard)
    return [choice for choice in side_rows(yard, (0, 1)) if has_order(sided(yard, choice))]


def count_choices(yard):
    """Return how many choices leave an order."""
    return len(choices(yard))


def is_holding(yard, lot):
    """Tell whether one can walk through the gaps of a lot between outside and all rooms that have a wall."""
    rooms = rooms_open_to(yard, lot)
    return all(low in rooms and high in rooms for low, high, _ in yard[1])


def count_holding(yard):
    """Return the tuple, for 0, 1, .. walls, up to all, of how many lots of so many hold the yard."""
    yard_check(yard)
    counts = []
    for size in range(len(yard[1]) + 1):
        counts.append(len([lot for lot in lots_of(yard, size) if is_holding(yard, lot)]))
    return tuple(counts)


def chance_of_order(yard, chance):
    """Return the chance of a choice that leaves an order, if each wall's side is 0 with a chance."""
    yard_check(yard)
    chance_check(chance)
    top, low = chance
    parts = (top, low - top)
    good = sum(product_of([parts[side] for side in choice]) for choice in choices(yard))
    return ratio(good, product_of([low for _ in yard[1]]))


def fewest_changes(yard):
    """Return how many walls must be turned for some order to be walked, None if no turning does."""
    lots = change_lots(yard)
    if not lots:
        return None
    return len(lots[0])


def change_lots(yard):
    """Return the list of the smallest lots that, turned, leave some order that can be walked."""
    yard_check(yard)
    for size in range(len(yard[1]) + 1):
        found = [lot for lot in lots_of(yard, size) if has_order(turned(yard, lot))]
        if found:
            return found
    return []
