"""Duels: two players choose the sides of all walls in turn, and one of them wants an order."""

from walledin.checks import most_check, number_check, yard_check
from walledin.choices import side_rows, sided
from walledin.orders import has_order

MOST_WALLS_OF_DUELS = 7
FREE = 2


def chosen_next(row):
    """Return a dict of the pairs (wall, side) that can be chosen next, ascending, each with the row of sides then."""
    found = {}
    for number in range(len(row)):
        if row[number] == FREE:
            for side in (0, 1):
                found[(number, side)] = row[:number] + (side,) + row[number + 1:]
    return found


def outcomes(yard, mover):
    """Return a dict of all rows of sides, FREE where none is chosen yet, each with whether player 0 wins from there.

    The player mover has begun.
    """
    found = {}
    # Whoever chooses a side makes the row less, as Python compares tuples: what can come of a row stands ahead of it.
    for row in side_rows(yard, (0, 1, FREE)):
        results = [found[after] for after in chosen_next(row).values()]
        turn = (mover + len(row) - row.count(FREE)) % 2
        if not results:
            found[row] = has_order(sided(yard, row))
        elif turn == 0:
            found[row] = any(results)
        else:
            found[row] = all(results)
    return found


def start(yard):
    """Return the row of sides in which none is chosen yet."""
    return (FREE,) * len(yard[1])


def duel_check(yard):
    """Raise TooMany for a yard with more walls than there may be in a duel."""
    most_check(len(yard[1]), MOST_WALLS_OF_DUELS)


def builder_wins(yard, mover):
    """Tell whether player 0 wins if a player begins."""
    yard_check(yard)
    number_check(mover, 0, 1)
    duel_check(yard)
    return outcomes(yard, mover)[start(yard)]


def good_starts(yard, mover):
    """Return the ascending tuple of the pairs (wall, side) with which a player who begins wins."""
    yard_check(yard)
    number_check(mover, 0, 1)
    duel_check(yard)
    found = outcomes(yard, mover)
    first = chosen_next(start(yard))
    return tuple(pair for pair in first if found[first[pair]] == (mover == 0))


def duel_table(yard):
    """Return the pair of whether player 0 wins if player 0 begins, and if player 1 does."""
    return (builder_wins(yard, 0), builder_wins(yard, 1))
