"""The document's words done the long way round, to compare the program with.

Nothing here uses the program. Everything takes right arguments only.
"""

from itertools import combinations, permutations


def numbers(yard):
    return range(len(yard[1]))


def every_lot(yard):
    """All lots, those with fewer walls first, otherwise as Python compares tuples."""
    many = len(yard[1])
    return [lot for size in range(many + 1) for lot in combinations(range(many), size)]


def every_order(yard):
    """All orders, ascending, whether they can be walked or not."""
    return list(permutations(numbers(yard)))


def setting_rooms(wall):
    return {0: {wall[0]}, 1: {wall[1]}, 2: {wall[0], wall[1]}}[wall[2]]


def walk_on(yard, lot, rooms, told):
    """The rooms that one gets to from some rooms; if told, each gap only from a side that its wall may be set from."""
    rooms = set(rooms)
    while True:
        further = set(rooms)
        for number in lot:
            low, high, _ = yard[1][number]
            near = setting_rooms(yard[1][number])
            if low in rooms and (not told or low in near):
                further.add(high)
            if high in rooms and (not told or high in near):
                further.add(low)
        if further == rooms:
            return rooms
        rooms = further


def come(yard, lot):
    return walk_on(yard, lot, {0}, True)


def fewest_steps(yard, lot, one, other):
    rooms = {one}
    for steps in range(yard[0]):
        if other in rooms:
            return steps
        near = set(rooms)
        for number in lot:
            low, high, _ = yard[1][number]
            if low in rooms or high in rooms:
                near |= {low, high}
        rooms = near
    return None


def mason_walks(yard, order, room):
    """Let a mason who begins in a room set the walls of an order, with all choices of stands at once."""
    at = {room}
    for place, number in enumerate(order):
        at = walk_on(yard, order[place:], at, False) & setting_rooms(yard[1][number])
    return 0 in at


def walks(yard, order):
    return any(mason_walks(yard, order, room) for room in range(yard[0]))


def good_orders(yard):
    """All orders that can be walked, ascending."""
    return [order for order in every_order(yard) if walks(yard, order)]


def set_from(yard, order, place):
    """The rooms from which a wall of an order may be set that one comes to through the gaps behind it."""
    return setting_rooms(yard[1][order[place]]) & come(yard, order[place + 1:])


def opens(yard, lot):
    rooms = come(yard, lot)
    return all(setting_rooms(yard[1][number]) & rooms for number in lot)


def good_lots(yard):
    return [lot for lot in every_lot(yard) if opens(yard, lot)]


def only(yard, lot):
    return (yard[0], tuple(yard[1][number] for number in lot))


def with_side(yard, number, side):
    walls = list(yard[1])
    walls[number] = walls[number][:2] + (side,)
    return (yard[0], tuple(walls))
