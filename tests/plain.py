"""The document's words done the long way round, to compare the program with.

Nothing here uses the program. Everything takes right arguments only.
"""

import re
from collections import Counter
from fractions import Fraction
from functools import lru_cache
from itertools import combinations, permutations, product


def numbers(yard):
    return range(len(yard[1]))


def every_lot(yard):
    """All lots, those with fewer walls first, otherwise as Python compares tuples."""
    many = len(yard[1])
    return [lot for size in range(many + 1) for lot in combinations(range(many), size)]


def every_order(yard):
    """All orders, ascending, whether they can be walked or not."""
    return list(permutations(numbers(yard)))


def setting_rooms(wall):
    return {0: {wall[0]}, 1: {wall[1]}, 2: {wall[0], wall[1]}}[wall[2]]


def walk_on(yard, lot, rooms, told):
    """The rooms that one gets to from some rooms; if told, each gap only from a side that its wall may be set from."""
    rooms = set(rooms)
    while True:
        further = set(rooms)
        for number in lot:
            low, high, _ = yard[1][number]
            near = setting_rooms(yard[1][number])
            if low in rooms and (not told or low in near):
                further.add(high)
            if high in rooms and (not told or high in near):
                further.add(low)
        if further == rooms:
            return rooms
        rooms = further


def come(yard, lot):
    return walk_on(yard, lot, {0}, True)


@lru_cache(maxsize=None)
def fewest_steps(yard, lot, one, other):
    rooms = {one}
    for steps in range(yard[0]):
        if other in rooms:
            return steps
        near = set(rooms)
        for number in lot:
            low, high, _ = yard[1][number]
            if low in rooms or high in rooms:
                near |= {low, high}
        rooms = near
    return None


def mason_ends(yard, order, room):
    """Let a mason who begins in a room set the walls of an order, with all choices of stands at once.

    The rooms in which it can stand then.
    """
    at = {room}
    for place, number in enumerate(order):
        at = walk_on(yard, order[place:], at, False) & setting_rooms(yard[1][number])
    return at


def mason_walks(yard, order, room):
    return 0 in mason_ends(yard, order, room)


def walks(yard, order):
    return any(mason_walks(yard, order, room) for room in range(yard[0]))


def good_orders(yard):
    """All orders that can be walked, ascending."""
    return [order for order in every_order(yard) if walks(yard, order)]


def set_from(yard, order, place):
    """The rooms from which a wall of an order may be set that one comes to through the gaps behind it."""
    return setting_rooms(yard[1][order[place]]) & come(yard, order[place + 1:])


def opens(yard, lot):
    rooms = come(yard, lot)
    return all(setting_rooms(yard[1][number]) & rooms for number in lot)


def good_lots(yard):
    return [lot for lot in every_lot(yard) if opens(yard, lot)]


def only(yard, lot):
    return (yard[0], tuple(yard[1][number] for number in lot))


def with_side(yard, number, side):
    walls = list(yard[1])
    walls[number] = walls[number][:2] + (side,)
    return (yard[0], tuple(walls))


def is_trap(yard, rooms):
    """Whether some rooms, in any number, are a trap."""
    if not rooms or 0 in rooms:
        return False
    if not any(low in rooms or high in rooms for low, high, _ in yard[1]):
        return False
    for wall in yard[1]:
        for room, other in ((wall[0], wall[1]), (wall[1], wall[0])):
            if room in rooms and other not in rooms and other in setting_rooms(wall):
                return False
    return True


def every_rooms(yard):
    """All rising tuples of rooms, those with fewer rooms first, otherwise as Python compares tuples."""
    many = yard[0]
    return [rooms for size in range(many + 1) for rooms in combinations(range(many), size)]


def traps(yard):
    return [rooms for rooms in every_rooms(yard) if is_trap(yard, rooms)]


def is_come_to(yard, number, gone=()):
    """Whether a wall is come to, some other walls left out."""
    others = [other for other in numbers(yard) if other != number and other not in gone]
    return bool(setting_rooms(yard[1][number]) & come(yard, others))


def come_to(yard, gone=()):
    return tuple(number for number in numbers(yard) if number not in gone and is_come_to(yard, number, gone))


def is_way(yard, gaps, number):
    """Whether a row of gaps leads to a wall."""
    goals = setting_rooms(yard[1][number])
    rooms = [0]
    for gap in gaps:
        low, high, _ = yard[1][gap]
        if rooms[-1] in goals or rooms[-1] not in setting_rooms(yard[1][gap]):
            return False
        rooms.append(low + high - rooms[-1])
    return rooms[-1] in goals and len(set(rooms)) == len(rooms)


def ways(yard, number):
    others = [other for other in numbers(yard) if other != number]
    rows = [gaps for size in range(len(others) + 1) for gaps in permutations(others, size)]
    return [gaps + (number,) for gaps in rows if is_way(yard, gaps, number)]


def growths(yard):
    """The orders of the walls that are come to alone, by the numbers of the whole yard, read from their ends."""
    lot = come_to(yard)
    return [tuple(lot[number] for number in order[::-1]) for order in good_orders(only(yard, lot))]


def ahead(yard, one, other):
    return is_come_to(yard, other) and not is_come_to(yard, other, (one,))


def ratio(top, low):
    """A pair of numbers without a common divisor, None if the second one is 0."""
    if low == 0:
        return None
    part = Fraction(top, low)
    return (part.numerator, part.denominator)


def joined(yard, lot):
    """The rooms from which one can walk to outside."""
    return walk_on(yard, lot, {0}, False)


def cuts(yard, order):
    """For each place of an order the rooms that are cut off when its wall is set, and could be left ahead of that."""
    return [joined(yard, order[place:]) - joined(yard, order[place + 1:]) for place in range(len(order))]


def cutters(yard, order):
    return tuple(number for number, rooms in zip(order, cuts(yard, order)) if rooms)


def room_order(yard, order):
    found = []
    for rooms in cuts(yard, order):
        found.extend(sorted(rooms))
    return tuple(found)


def is_span(yard, lot):
    rooms = joined(yard, numbers(yard))
    return len(lot) == len(rooms) - 1 and rooms <= come(yard, lot)


def spans(yard):
    return sorted(lot for lot in every_lot(yard) if is_span(yard, lot))


def free_ways(yard, room):
    """All rows of gaps from outside to a room, no room twice, from any side, each with its rooms."""
    found = []
    rows = [((), (0,))]
    while rows:
        found.extend(row for row in rows if row[1][-1] == room)
        longer = []
        for gaps, rooms in rows:
            for number, (low, high, _) in enumerate(yard[1]):
                if rooms[-1] in (low, high) and low + high - rooms[-1] not in rooms:
                    longer.append((gaps + (number,), rooms + (low + high - rooms[-1],)))
        rows = longer
    return found


def is_tree(yard):
    rooms = {room for wall in yard[1] for room in wall[:2]}
    if any(len(free_ways(yard, room)) != 1 for room in rooms):
        return False
    for wall in yard[1]:
        near = min(wall[:2], key=lambda room: len(free_ways(yard, room)[0][0]))
        if near not in setting_rooms(wall):
            return False
    return True


def every_days(lot):
    """All tuples of lots that are not empty in which each wall of a lot is in just one."""
    if not lot:
        return [()]
    found = []
    for size in range(1, len(lot) + 1):
        for first in combinations(lot, size):
            rest = tuple(number for number in lot if number not in first)
            found.extend((first,) + days for days in every_days(rest))
    return found


def is_plan(yard, days):
    """Whether a tuple of lots in which each wall is in just one is a plan."""
    for day, lot in enumerate(days):
        rooms = come(yard, [number for later in days[day + 1:] for number in later])
        if not all(setting_rooms(yard[1][number]) & rooms for number in lot):
            return False
    return True


def plans(yard):
    return [days for days in every_days(tuple(numbers(yard))) if is_plan(yard, days)]


def fewest_to_stand(yard, order, room):
    """Let a mason who begins in a room set the walls of an order: a dict of last rooms with the fewest steps."""
    at = {room: 0}
    for place, number in enumerate(order):
        further = {}
        for here in at:
            for there in setting_rooms(yard[1][number]):
                steps = fewest_steps(yard, order[place:], here, there)
                if steps is not None:
                    further[there] = min(further.get(there, 10 ** 9), at[here] + steps)
        at = further
    return at


def walk_length(yard, order, room):
    return fewest_to_stand(yard, order, room).get(0)


def walks_with_stands(yard, order, room):
    """All tuples of stands of masons who begin in a room and set the walls of an order, each with its fewest steps."""
    found = {}
    for row in product(*[sorted(setting_rooms(yard[1][number])) for number in order]):
        rooms = (room,) + row
        steps = [fewest_steps(yard, order[place:], rooms[place], rooms[place + 1]) for place in range(len(order))]
        if None not in steps and rooms[-1] == 0:
            found[row] = sum(steps)
    return found


def team_ends(yard, order, many):
    """Let so many masons, who begin anywhere, set the walls of an order: all tuples of their rooms at last.

    Ahead of each wall all of them walk wherever they can.
    """
    at = set(product(range(yard[0]), repeat=many))
    for place, number in enumerate(order):
        near = {room: walk_on(yard, order[place:], {room}, False) for room in range(yard[0])}
        moved = {rooms for row in at for rooms in product(*[near[room] for room in row])}
        at = {rooms for rooms in moved if setting_rooms(yard[1][number]) & set(rooms)}
    return at


def moves(yard, lot, room):
    """The pairs of a wall of a lot and of a room from which a mason can set it, who is in a room."""
    near = walk_on(yard, lot, {room}, False)
    return [(number, side) for number in lot for side in sorted(setting_rooms(yard[1][number]) & near)]


def rows_of_moves(yard, lot, room):
    """All rows of moves of a random mason, each with its chance, the walls that are left and the last room."""
    pairs = moves(yard, lot, room)
    if not pairs:
        return [(Fraction(1), lot, room)]
    found = []
    for number, side in pairs:
        rest = tuple(other for other in lot if other != number)
        found.extend((chance / len(pairs), left, last) for chance, left, last in rows_of_moves(yard, rest, side))
    return found


def warmth(yard, order):
    return sum(len(joined(yard, order[place + 1:]) - {0}) for place in range(len(order)))


def draws(yard, read=()):
    """All rows of walls that are read at random, from the end, each with its chance."""
    near = [number for number in numbers(yard) if number not in read and opens(yard, read + (number,))]
    if not near:
        return [(Fraction(1), read)]
    return [(chance / len(near), row) for number in near for chance, row in draws(yard, read + (number,))]


@lru_cache(maxsize=None)
def has_walk(yard):
    return any(walks(yard, order) for order in every_order(yard))


def sided(yard, sides):
    return (yard[0], tuple(wall[:2] + (side,) for wall, side in zip(yard[1], sides)))


def every_choice(yard):
    return list(product((0, 1), repeat=len(yard[1])))


def good_choices(yard):
    return [choice for choice in every_choice(yard) if has_walk(sided(yard, choice))]


def used_rooms(yard):
    """Outside and the rooms that have a wall."""
    return {0} | {room for wall in yard[1] for room in wall[:2]}


def holds(yard, lot):
    return all(used_rooms(yard) <= walk_on(yard, lot, {room}, False) for room in used_rooms(yard))


def turned(yard, lot):
    walls = [wall[:2] + ((1, 0, 2)[wall[2]] if number in lot else wall[2],) for number, wall in enumerate(yard[1])]
    return (yard[0], tuple(walls))


def cut_off(yard, order, room):
    """Behind how many walls a room is cut off: all numbers that are so by the words, 0 where none is."""
    found = [many for many in range(1, len(order) + 1)
             if room not in joined(yard, order[many:]) and room in joined(yard, order[many - 1:])]
    if not found:
        return 0
    many, = found
    return many


def told_ways(yard, room):
    """All rows of gaps from outside to a room, no room twice, from told sides, each with its rooms."""
    return [(gaps, rooms) for gaps, rooms in free_ways(yard, room)
            if all(rooms[at] in setting_rooms(yard[1][gap]) for at, gap in enumerate(gaps))]


def has_ring(yard):
    """Whether some row of gaps, each walked from a told side, leads back to its first room, no other one twice."""
    rows = [(room, room, ()) for room in range(yard[0])]
    while rows:
        longer = []
        for first, last, ahead in rows:
            for wall in yard[1]:
                if last in setting_rooms(wall):
                    there = wall[0] + wall[1] - last
                    if there == first:
                        return True
                    if there not in ahead:
                        longer.append((first, there, ahead + (there,)))
        rows = longer
    return False


def is_round(yard):
    rooms = used_rooms(yard)
    return rooms <= come(yard, numbers(yard)) and all(0 in walk_on(yard, numbers(yard), {room}, True) for room in rooms)


def builder_wins(yard, sides, turn):
    """Whether player 0 wins if the player whose turn it is goes on; sides not yet chosen are None."""
    if None not in sides:
        return has_walk(sided(yard, sides))
    results = []
    for number in numbers(yard):
        if sides[number] is None:
            for side in (0, 1):
                results.append(builder_wins(yard, sides[:number] + (side,) + sides[number + 1:], 1 - turn))
    return any(results) if turn == 0 else all(results)


def is_yard_text(text):
    if not re.fullmatch("[1-9]:([0-8][<>=][0-8]( [0-8][<>=][0-8]){0,11})?", text, re.ASCII):
        return False
    return all(int(wall[0]) < int(wall[2]) < int(text[0]) for wall in text[2:].split())


# Whatever can become the text of a yard does so with one of these behind it.
ENDS = [""] + ["1:", ":"] + [str(room) for room in range(9)] + [f"<{room}" for room in range(9)] + [
    f"{low}<{high}" for low in range(9) for high in range(low + 1, 9)]


def wrong_place(text):
    """The place of the first sign with which a text can no more become one of a yard, None for one of a yard."""
    if is_yard_text(text):
        return None
    for place in range(len(text)):
        if not any(is_yard_text(text[:place + 1] + end) for end in ENDS):
            return place
    return len(text)


def wrong_place_of_order(text, many):
    """Where the text of an order of so many walls is wrong, None if it is right."""
    seen = []
    place = 0
    while len(seen) < many:
        word = re.match("[0-9]*", text[place:]).group()
        if word == "" or str(int(word)) != word or int(word) >= many or word in seen:
            return place
        seen.append(word)
        place += len(word)
        if len(seen) < many:
            if not text[place:].startswith(","):
                return place
            place += 1
    return None if text[place:] == "" else place


@lru_cache(maxsize=None)
def finishes(yard, lot, room):
    """Whether a mason in a room can set all walls of a lot, whose gaps alone are open, and stand outside at last."""
    if not lot:
        return room == 0
    return any(finishes(yard, tuple(other for other in lot if other != number), side)
               for number, side in moves(yard, lot, room))


def safe(yard, lot, room):
    found = {number for number, side in moves(yard, lot, room)
             if finishes(yard, tuple(other for other in lot if other != number), side)}
    return tuple(sorted(found))


def parts(yard):
    """The lots of walls that hang together through rooms but outside: two are joined as long as they share a room."""
    groups = [{number} for number in numbers(yard)]

    def rooms(group):
        return {room for number in group for room in yard[1][number][:2]} - {0}

    while True:
        pairs = [(one, other) for one, other in combinations(groups, 2) if rooms(one) & rooms(other)]
        if not pairs:
            return tuple(sorted(tuple(sorted(group)) for group in groups))
        one, other = pairs[0]
        groups = [group for group in groups if group not in pairs[0]] + [one | other]


def told(yard, names):
    """The walls with other names of their rooms, without an order of the rooms: a set of rooms, and the told ones."""
    return [(frozenset(names[room] for room in wall[:2]), frozenset(names[room] for room in setting_rooms(wall)))
            for wall in yard[1]]


def walls_of(rows):
    """What told tells, as walls again."""
    found = []
    for rooms, near in rows:
        low, high = sorted(rooms)
        found.append((low, high, 2 if len(near) == 2 else int(high in near)))
    return found


def every_names(yard):
    return [(0,) + names for names in permutations(range(1, yard[0]))]


def alike(one, other):
    same = Counter(told(other, range(other[0])))
    return one[0] == other[0] and any(Counter(told(one, names)) == same for names in every_names(one))


def symmetries(yard):
    same = Counter(told(yard, range(yard[0])))
    return [names[1:] for names in every_names(yard) if Counter(told(yard, names)) == same]


def every_like(yard):
    """All tuples of walls, in all orders, of the yards that are alike."""
    return {walls for names in every_names(yard) for walls in permutations(walls_of(told(yard, names)))}


def exchanges(one, others):
    """A dict of the orders, of some, that exchanges of neighbors make of one, each with how few do."""
    found = {one: 0}
    row = [one]
    while row:
        behind = []
        for order in row:
            for place in range(len(order) - 1):
                changed = list(order)
                changed[place], changed[place + 1] = changed[place + 1], changed[place]
                changed = tuple(changed)
                if changed in others and changed not in found:
                    found[changed] = found[order] + 1
                    behind.append(changed)
        row = behind
    return found
