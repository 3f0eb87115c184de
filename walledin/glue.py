"""Yards put together, renamed and taken apart."""

from walledin.checks import MOST_ROOMS, MOST_WALLS, most_check, names_check, room_check, yard_check
from walledin.yards import every_number, free_distances, other_way


def named(wall, names):
    """Return a wall with new names of its rooms, its side told anew; the names are items at the places of the rooms."""
    low, high, side = wall
    if names[low] < names[high]:
        return (names[low], names[high], side)
    return other_way((names[high], names[low], side))


def put_on(one, other, room):
    """Return a yard with another one, whose outside is put on a room of it, beside it."""
    many = one[0] + other[0] - 1
    most_check(many, MOST_ROOMS)
    most_check(len(one[1]) + len(other[1]), MOST_WALLS)
    names = (room,) + tuple(range(one[0], many))
    return (many, one[1] + tuple(named(wall, names) for wall in other[1]))


def beside(one, other):
    """Return a yard with another one beside it, outside theirs together."""
    yard_check(one)
    yard_check(other)
    return put_on(one, other, 0)


def onto(one, other, room):
    """Return a yard with another one, whose outside is put on a room of it, beside it."""
    yard_check(one)
    yard_check(other)
    room_check(one, room)
    return put_on(one, other, room)


def new_walls(yard, rooms):
    """Return the tuple of the walls of a yard with new names of the rooms 1, 2, .."""
    names = (0,) + rooms
    return tuple(named(wall, names) for wall in yard[1])


def renamed(yard, rooms):
    """Return the yard with new names of the rooms 1, 2, .."""
    yard_check(yard)
    names_check(yard, rooms)
    return (yard[0], new_walls(yard, rooms))


def parts(yard):
    """Return the ascending tuple of the lots of the walls that hang together through rooms but outside."""
    yard_check(yard)
    inner = [number for number in every_number(yard) if yard[1][number][0] != 0]
    found = []
    for number in every_number(yard):
        if not any(number in lot for lot in found):
            # The higher room of a wall never is outside, so it tells with which walls that one hangs together.
            near = free_distances(yard, inner, yard[1][number][1:2])
            found.append(tuple(other for other in every_number(yard) if yard[1][other][1] in near))
    return tuple(found)


def part_yard(yard, lot):
    """Return the yard with the walls of a lot alone, and outside and the rooms of these, numbered anew in order."""
    used = {0: True}
    for number in lot:
        low, high, _ = yard[1][number]
        used[low] = True
        used[high] = True
    names = {room: name for name, room in enumerate(sorted(used))}
    return (len(names), tuple(named(yard[1][number], names) for number in lot))


def part_yards(yard):
    """Return the tuple of the yards with the walls of each part alone, and the rooms that these need."""
    return tuple(part_yard(yard, lot) for lot in parts(yard))
