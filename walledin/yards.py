"""Yards: rooms, and the walls that their gaps are to get."""

from walledin.checks import lot_check, room_check, wall_check, yard_check


def sides_of(wall):
    """Return the ascending tuple of the rooms from which a wall may be set."""
    low, high, side = wall
    if side == 2:
        return (low, high)
    return (wall[side],)


def can_set(wall, rooms):
    """Tell whether a wall may be set from one of some rooms."""
    return any(room in rooms for room in sides_of(wall))


def every_number(yard):
    """Return the lot of all walls."""
    return tuple(range(len(yard[1])))


def without(lot, number):
    """Return a lot without one of its walls."""
    return tuple(other for other in lot if other != number)


def with_side(yard, number, side):
    """Return the yard with another side of one wall."""
    low, high, _ = yard[1][number]
    return (yard[0], yard[1][:number] + ((low, high, side),) + yard[1][number + 1:])


def other_way(wall):
    """Return a wall that may be set from the other side instead, where it may be set from one side."""
    low, high, side = wall
    if side == 2:
        return wall
    return (low, high, 1 - side)


def told_steps(yard, lot):
    """Return the pairs (here, there) of rooms for the gaps of a lot, each gap from its wall's sides alone."""
    steps = []
    for number in lot:
        wall = yard[1][number]
        for room in sides_of(wall):
            steps.append((room, wall[0] + wall[1] - room))
    return steps


def free_steps(yard, lot):
    """Return the pairs (here, there) of rooms for the gaps of a lot, each gap from either side."""
    steps = []
    for number in lot:
        low, high, _ = yard[1][number]
        steps.append((low, high))
        steps.append((high, low))
    return steps


def distances(steps, starts):
    """Return a dict of the rooms that one gets to from some rooms, each with the fewest steps that lead to it."""
    found = {start: 0 for start in starts}
    row = list(starts)
    while row:
        behind = []
        for room in row:
            for here, there in steps:
                if here == room and there not in found:
                    found[there] = found[room] + 1
                    behind.append(there)
        row = behind
    return found


def told_distances(yard, lot, starts):
    """Return the distances from some rooms through the gaps of a lot, each gap from its wall's sides alone."""
    return distances(told_steps(yard, lot), starts)


def free_distances(yard, lot, starts):
    """Return the distances from some rooms through the gaps of a lot, each gap from either side."""
    return distances(free_steps(yard, lot), starts)


def sides(yard, number):
    """Return the ascending tuple of the rooms from which the wall of a number may be set."""
    yard_check(yard)
    wall_check(yard, number)
    return sides_of(yard[1][number])


def rooms_open_to(yard, lot):
    """Return the ascending tuple of the rooms between which and outside one can walk through gaps of a lot."""
    yard_check(yard)
    lot_check(yard, lot)
    return tuple(sorted(free_distances(yard, lot, (0,))))


def rooms_come_to(yard, lot):
    """Return the ascending tuple of the rooms that one comes to from outside, each gap walked from its wall's sides."""
    yard_check(yard)
    lot_check(yard, lot)
    return tuple(sorted(told_distances(yard, lot, (0,))))


def steps_between(yard, lot, one, other):
    """Return the fewest gaps of a lot through which one walks from one room to another, None if one cannot."""
    yard_check(yard)
    lot_check(yard, lot)
    room_check(yard, one)
    room_check(yard, other)
    return free_distances(yard, lot, (one,)).get(other)


def touching(yard, room):
    """Return the lot of the walls at a room."""
    yard_check(yard)
    room_check(yard, room)
    return tuple(number for number in every_number(yard) if room in yard[1][number][:2])
