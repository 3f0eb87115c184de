"""What the arguments of the package's functions must be: each check raises the error of its kind of value."""

from math import gcd

from walledin.errors import (BadLot, BadNumber, BadOrder, BadRoom, BadSides, BadWall, BadWalls, BadYard, NotText,
                             TooMany)

MOST_ROOMS = 9
MOST_WALLS = 12
MOST_SIGNS = 100


def whole(value):
    """Tell whether a value is an integer."""
    # Python counts True and False among the integers, the package does not.
    return isinstance(value, int) and not isinstance(value, bool)


def within(value, low, high):
    """Tell whether a value is an integer from low to high."""
    return whole(value) and low <= value <= high


def wall_fits(value, many):
    """Tell whether a value is a wall between two of so many rooms."""
    if not isinstance(value, tuple) or len(value) != 3:
        return False
    low, high, side = value
    return within(low, 0, many - 1) and within(high, low + 1, many - 1) and within(side, 0, 2)


def rises(value, many):
    """Tell whether a value is a rising tuple of integers from 0 to many - 1."""
    if not isinstance(value, tuple):
        return False
    low = 0
    for item in value:
        if not within(item, low, many - 1):
            return False
        low = item + 1
    return True


def yard_check(yard):
    """Raise BadYard for a value that is no yard."""
    if not isinstance(yard, tuple) or len(yard) != 2:
        raise BadYard(None)
    many, walls = yard
    if not within(many, 1, MOST_ROOMS) or not isinstance(walls, tuple) or len(walls) > MOST_WALLS:
        raise BadYard(None)
    for index, wall in enumerate(walls):
        if not wall_fits(wall, many):
            raise BadYard(index)


def wall_check(yard, number):
    """Raise BadWall for a value that is no number of a wall."""
    if not within(number, 0, len(yard[1]) - 1):
        raise BadWall()


def unlike_check(yard, one, other):
    """Raise BadWall for two values that are not the numbers of two unlike walls."""
    wall_check(yard, one)
    wall_check(yard, other)
    if one == other:
        raise BadWall()


def walls_check(yard, walls):
    """Raise BadWalls for a value that is no tuple of walls between rooms of a yard."""
    if not isinstance(walls, tuple) or not all(wall_fits(item, yard[0]) for item in walls):
        raise BadWalls()


def lot_check(yard, lot):
    """Raise BadLot for a value that is no lot."""
    if not rises(lot, len(yard[1])):
        raise BadLot()


def room_check(yard, room):
    """Raise BadRoom for a value that is no room."""
    if not within(room, 0, yard[0] - 1):
        raise BadRoom()


def inner_check(yard, room):
    """Raise BadRoom for a value that is no room, and for outside."""
    if not within(room, 1, yard[0] - 1):
        raise BadRoom()


def rooms_check(yard, rooms):
    """Raise BadRoom for a value that is no rising tuple of rooms."""
    if not rises(rooms, yard[0]):
        raise BadRoom()


def ends_check(yard, ends):
    """Raise BadRoom for a value that is no rising tuple of one or more rooms."""
    rooms_check(yard, ends)
    if len(ends) == 0:
        raise BadRoom()


def is_row_of(value, numbers):
    """Tell whether a value is a tuple of some ascending integers, each once, in any order."""
    return isinstance(value, tuple) and all(whole(item) for item in value) and sorted(value) == numbers


def names_check(yard, rooms):
    """Raise BadRoom for a value that is no tuple of all rooms but outside, each once."""
    if not is_row_of(rooms, list(range(1, yard[0]))):
        raise BadRoom()


def order_check(yard, order):
    """Raise BadOrder for a value that is no order."""
    if not is_row_of(order, list(range(len(yard[1])))):
        raise BadOrder()


def rank_check(rank):
    """Raise BadNumber for a value that is no integer from 0 on."""
    if not whole(rank) or rank < 0:
        raise BadNumber()


def number_check(number, low, high):
    """Raise BadNumber for a value that is no integer from low to high."""
    if not within(number, low, high):
        raise BadNumber()


def row_check(yard, row, low, high):
    """Raise BadNumber for a value that is no tuple of an integer from low to high for each wall."""
    if not isinstance(row, tuple) or len(row) != len(yard[1]):
        raise BadNumber()
    for number in row:
        number_check(number, low, high)


def is_pair(value):
    """Tell whether a value is a pair of integers."""
    return isinstance(value, tuple) and len(value) == 2 and whole(value[0]) and whole(value[1])


def windows_check(yard, windows):
    """Raise BadNumber for a value that is no tuple of a pair of integers for each wall."""
    if not isinstance(windows, tuple) or len(windows) != len(yard[1]) or not all(is_pair(item) for item in windows):
        raise BadNumber()


def sides_check(yard, sides):
    """Raise BadSides for a value that is no tuple of 0, 1 or 2 for each wall."""
    if not isinstance(sides, tuple) or len(sides) != len(yard[1]) or not all(within(side, 0, 2) for side in sides):
        raise BadSides()


def chance_check(chance):
    """Raise BadNumber for a value that is no ratio from 0 to 1."""
    if not is_pair(chance):
        raise BadNumber()
    top, low = chance
    if low < 1 or not 0 <= top <= low or gcd(top, low) != 1:
        raise BadNumber()


def most_check(many, most):
    """Raise TooMany for more than there may be."""
    if many > most:
        raise TooMany(most)


def text_check(text):
    """Raise NotText for a value that is no string of at most so many signs."""
    if not isinstance(text, str) or len(text) > MOST_SIGNS:
        raise NotText()
