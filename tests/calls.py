"""All functions of the interface, each with the kinds of its arguments, and right and wrong values of each kind."""

from walledin import counts, lots, orders, sameness, traps, ways, yards
from walledin.errors import BadLot, BadNumber, BadOrder, BadRoom, BadWall, BadWalls, BadYard

YARD = (4, ((0, 1, 0), (1, 2, 2), (0, 3, 0)))

CALLS = [
    (yards.sides, ("yard", "number")),
    (yards.rooms_open_to, ("yard", "lot")),
    (yards.rooms_come_to, ("yard", "lot")),
    (yards.steps_between, ("yard", "lot", "room", "room")),
    (yards.touching, ("yard", "room")),
    (orders.is_order, ("yard", "order")),
    (orders.can_walk, ("yard", "order", "room")),
    (orders.stuck_at, ("yard", "order")),
    (orders.stands, ("yard", "order")),
    (orders.has_order, ("yard",)),
    (orders.first_order, ("yard",)),
    (orders.last_order, ("yard",)),
    (lots.is_open, ("yard", "lot")),
    (lots.heart, ("yard", "lot")),
    (lots.all_gaps, ("yard",)),
    (lots.can_go, ("yard", "lot")),
    (lots.can_come, ("yard", "lot")),
    (lots.open_lots, ("yard",)),
    (lots.count_open, ("yard",)),
    (lots.only_open, ("yard", "lot")),
    (traps.is_trap, ("yard", "rooms")),
    (traps.traps, ("yard",)),
    (traps.least_traps, ("yard",)),
    (traps.greatest_trap, ("yard",)),
    (traps.least_trap_with, ("yard", "room")),
    (traps.walls_around, ("yard", "rooms")),
    (traps.cures, ("yard",)),
    (ways.ways, ("yard", "number")),
    (ways.shortest_way, ("yard", "number")),
    (ways.least_back, ("yard", "number")),
    (ways.greatest_back, ("yard", "number")),
    (ways.places, ("yard", "number")),
    (ways.always_ahead, ("yard", "number", "other")),
    (ways.gates, ("yard", "number")),
    (ways.last_gate, ("yard", "number")),
    (ways.gate_table, ("yard",)),
    (ways.hanging_on, ("yard", "number")),
    (ways.free_ones, ("yard",)),
    (ways.both_first, ("yard", "number", "other")),
    (counts.count_orders, ("yard",)),
    (counts.order_at, ("yard", "rank")),
    (counts.rank_of, ("yard", "order")),
    (counts.next_order, ("yard", "order")),
    (counts.place_counts, ("yard", "number")),
    (counts.mean_place, ("yard", "number")),
    (counts.ahead_chance, ("yard", "number", "other")),
    (counts.swaps, ("yard", "order")),
    (sameness.same_orders, ("yard", "yard")),
    (sameness.orders_lost, ("yard", "number", "side")),
    (sameness.tight, ("yard",)),
    (sameness.loose, ("yard",)),
    (sameness.added, ("yard", "walls")),
    (sameness.taken_out, ("yard", "number")),
    (sameness.orders_without, ("yard", "number")),
    (sameness.fewest_added, ("yard",)),
    (sameness.least_added, ("yard",)),
]

RIGHT = {
    "yard": [YARD],
    "number": [0, 1, 2],
    "lot": [(), (1,), (0, 1), (0, 1, 2)],
    "room": [0, 1, 2, 3],
    "order": [(0, 1, 2), (1, 2, 0), (2, 0, 1)],
    # The number of a wall unlike the argument ahead of it.
    "other": [0, 1, 2],
    "rooms": [(), (1,), (0, 2), (1, 2, 3), (0, 1, 2, 3)],
    "rank": [0, 1, 2, 6, 10 ** 40],
    "side": [0, 1],
    "walls": [(), ((0, 2, 1),), ((2, 3, 0), (0, 1, 2)), ((0, 1, 0),) * 9],
}

# None of these values is right for any argument, but for a great rank.
ODD = [None, True, False, "", "a", "0", -1, 10 ** 40, -10 ** 40, {}, {0: 1}, [], [0], [0, 1, 2], ("a",), (None,),
       (False,), (True,), ((),), ((0,),), ([0],), ({},), (0, "1", 2), (0, None), (1, [2])]

WRONG_YARDS = [
    ((4,), None), ((4, (), ()), None), ((), None), ([4, ()], None), ((4, []), None), ((4, [(0, 1, 0)]), None),
    ((0, ()), None), ((10, ()), None), ((-1, ()), None), ((True, ()), None), ((None, ()), None), (("4", ()), None),
    ((10 ** 40, ()), None), ((4, None), None), ((4, "012"), None), ((4, {}), None), ((4, 3), None),
    ((4, ((0, 1, 0),) * 13), None), ((4, (None,) * 13), None), ((0, ((0, 1, 3),)), None), (((), 4), None),
    ((4, (None,)), 0), ((4, (3,)), 0), ((4, ("010",)), 0), ((4, ((0, 1),)), 0), ((4, ((0, 1, 0, 0),)), 0),
    ((4, ((),)), 0), ((4, ([0, 1, 0],)), 0), ((4, ({0: 1, 1: 1, 2: 0},)), 0), ((4, ((1, 0, 0),)), 0),
    ((4, ((1, 1, 0),)), 0), ((4, ((0, 4, 0),)), 0), ((4, ((-1, 1, 0),)), 0), ((4, ((0, 1, 3),)), 0),
    ((4, ((0, 1, -1),)), 0), ((4, ((0, True, 0),)), 0), ((4, ((False, 1, 0),)), 0), ((4, ((0, 1, False),)), 0),
    ((4, ((0, 1, True),)), 0), ((4, ((0, 1, None),)), 0), ((4, ((0, "1", 0),)), 0), ((4, ((None, 1, 0),)), 0),
    ((4, (((0,), 1, 0),)), 0), ((4, ((0, 1, (0,)),)), 0), ((4, ((0, 10 ** 40, 0),)), 0), ((1, ((0, 1, 0),)), 0),
    ((1, ((0, 0, 0),)), 0), ((4, ((0, 1, 0), (0, 4, 0))), 1), ((4, ((0, 1, 0), (1, 2, 2), (3, 2, 1))), 2),
    ((4, ((0, 1, 0), None, (3, 2, 1))), 1), ((9, ((0, 8, 0),) * 11 + ((0, 9, 0),)), 11),
]

WRONG = {
    "yard": ODD + [yard for yard, _ in WRONG_YARDS],
    "number": ODD + [3, 4, (0,), (1, 2)],
    "lot": ODD + [0, 1, (1, 0), (0, 0), (0, 2, 2), (0, 2, 1), (3,), (0, 3), (-1, 0), (0, 1, 2, 3), "012", (0, True)],
    "room": ODD + [4, 5, (0,), (1, 2), (0, 3, 0)],
    "order": ODD + [(), 0, 2, (0, 1), (0, 1, 2, 3), (0, 1, 1), (0, 0, 1), (0, 1, 3), (1, 2, 3), (-1, 0, 1), "012",
                    (0, 1, 2, 2), (False, 1, 2), (0, True, 2), (2, 1, None), ((0, 1, 2),), {0: 0, 1: 1, 2: 2}],
    "other": ODD + [3, 4, (0,), (1, 2)],
    "rooms": ODD + [0, 1, (1, 0), (0, 0), (1, 1), (1, 3, 2), (4,), (0, 4), (-1, 0), "012", (0, True), (0, 1, 2, 3, 4)],
    "rank": [value for value in ODD if value != 10 ** 40] + [-2, (0,), (1, 2), "3"],
    "side": ODD + [2, 3, -2, (0,), (1,), "1"],
    "walls": ODD + [0, 1, (0, 1, 0), [(0, 1, 0)], [()], "010", ((0, 1, 0), [0, 1, 0]), ((0, 1, 0),) * 12 + (None,)]
             + [yard[1] for yard, index in WRONG_YARDS if index is not None and yard[0] == 4],
}

ERRORS = {
    "yard": BadYard,
    "number": BadWall,
    "lot": BadLot,
    "room": BadRoom,
    "order": BadOrder,
    "other": BadWall,
    "rooms": BadRoom,
    "rank": BadNumber,
    "side": BadNumber,
    "walls": BadWalls,
}
