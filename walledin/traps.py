"""Traps: rooms in which a mason stays who sets the last wall around them, or within them."""

from itertools import combinations

from walledin.checks import rooms_check, yard_check
from walledin.yards import every_number, sides_of, touching, with_side


def holds(rooms, others):
    """Tell whether all other rooms are among some rooms."""
    return all(room in rooms for room in others)


def set_from_without(wall, rooms):
    """Tell whether a wall leads out of some rooms and may be set from its other room."""
    for room in sides_of(wall):
        there = wall[0] + wall[1] - room
        if room not in rooms and there in rooms:
            return True
    return False


def is_trap(yard, rooms):
    """Tell whether a rising tuple of rooms is a trap."""
    yard_check(yard)
    rooms_check(yard, rooms)
    if 0 in rooms or not any(touching(yard, room) for room in rooms):
        return False
    return not any(set_from_without(wall, rooms) for wall in yard[1])


def traps(yard):
    """Return the list of all traps, those with fewer rooms first."""
    yard_check(yard)
    many = yard[0]
    return [rooms for size in range(1, many) for rooms in combinations(range(1, many), size) if is_trap(yard, rooms)]


def least_traps(yard):
    """Return the list of the traps that hold no other trap, those with fewer rooms first."""
    found = []
    # Whatever a trap holds has fewer rooms and stands ahead of it, and of several such one holds no other trap.
    for rooms in traps(yard):
        if not any(holds(rooms, least) for least in found):
            found.append(rooms)
    return found


def greatest_trap(yard):
    """Return the trap that holds all others, None if there is none."""
    found = traps(yard)
    if not found:
        return None
    # Two traps together are a trap, so the last one, which has the most rooms, holds all.
    return found[-1]


def least_trap_with(yard, room):
    """Return the trap with a room that all other traps with it hold, None if there is none or the room has no wall."""
    if not touching(yard, room):
        return None
    for rooms in traps(yard):
        # What two traps with this room have in common is a trap, too, so the first one is within all others.
        if room in rooms:
            return rooms
    return None


def walls_around(yard, rooms):
    """Return the lot of the walls between some rooms and others."""
    yard_check(yard)
    rooms_check(yard, rooms)
    return tuple(number for number in every_number(yard)
                 if (yard[1][number][0] in rooms) != (yard[1][number][1] in rooms))


def cures(yard):
    """Return the lot of the walls each of which leaves no trap if it alone may be set from either side."""
    yard_check(yard)
    return tuple(number for number in every_number(yard) if not traps(with_side(yard, number, 2)))
