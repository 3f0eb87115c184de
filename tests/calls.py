"""All functions of the interface, each with the kinds of its arguments, and right and wrong values of each kind."""

from walledin.errors import BadLot, BadOrder, BadRoom, BadWall, BadYard
from walledin import lots, orders, yards

YARD = (4, ((0, 1, 0), (1, 2, 2), (0, 3, 0)))

CALLS = [
    (yards.sides, ("yard", "number")),
    (yards.rooms_open_to, ("yard", "lot")),
    (yards.rooms_come_to, ("yard", "lot")),
    (yards.steps_between, ("yard", "lot", "room", "room")),
    (yards.touching, ("yard", "room")),
    (orders.is_order, ("yard", "order")),
    (orders.can_walk, ("yard", "order", "room")),
    (orders.stuck_at, ("yard", "order")),
    (orders.stands, ("yard", "order")),
    (orders.has_order, ("yard",)),
    (orders.first_order, ("yard",)),
    (orders.last_order, ("yard",)),
    (lots.is_open, ("yard", "lot")),
    (lots.heart, ("yard", "lot")),
    (lots.all_gaps, ("yard",)),
    (lots.can_go, ("yard", "lot")),
    (lots.can_come, ("yard", "lot")),
    (lots.open_lots, ("yard",)),
    (lots.count_open, ("yard",)),
    (lots.only_open, ("yard", "lot")),
]

RIGHT = {
    "yard": [YARD],
    "number": [0, 1, 2],
    "lot": [(), (1,), (0, 1), (0, 1, 2)],
    "room": [0, 1, 2, 3],
    "order": [(0, 1, 2), (1, 2, 0), (2, 0, 1)],
}

# No value of these kinds is right for any argument but those that RIGHT tells.
ODD = [None, True, False, "", "a", "0", -1, 10 ** 40, -10 ** 40, {}, {0: 1}, [], [0], [0, 1, 2], ("a",), (None,),
       (False,), (True,), ((),), ((0,),), ([0],), ({},), (0, "1", 2), (0, None), (1, [2])]

WRONG_YARDS = [
    ((4,), None), ((4, (), ()), None), ((), None), ([4, ()], None), ((4, []), None), ((4, [(0, 1, 0)]), None),
    ((0, ()), None), ((10, ()), None), ((-1, ()), None), ((True, ()), None), ((None, ()), None), (("4", ()), None),
    ((10 ** 40, ()), None), ((4, None), None), ((4, "012"), None), ((4, {}), None), ((4, 3), None),
    ((4, ((0, 1, 0),) * 13), None), ((4, (None,) * 13), None), ((0, ((0, 1, 3),)), None), (((), 4), None),
    ((4, (None,)), 0), ((4, (3,)), 0), ((4, ("010",)), 0), ((4, ((0, 1),)), 0), ((4, ((0, 1, 0, 0),)), 0),
    ((4, ((),)), 0), ((4, ([0, 1, 0],)), 0), ((4, ({0: 1, 1: 1, 2: 0},)), 0), ((4, ((1, 0, 0),)), 0),
    ((4, ((1, 1, 0),)), 0), ((4, ((0, 4, 0),)), 0), ((4, ((-1, 1, 0),)), 0), ((4, ((0, 1, 3),)), 0),
    ((4, ((0, 1, -1),)), 0), ((4, ((0, True, 0),)), 0), ((4, ((False, 1, 0),)), 0), ((4, ((0, 1, False),)), 0),
    ((4, ((0, 1, True),)), 0), ((4, ((0, 1, None),)), 0), ((4, ((0, "1", 0),)), 0), ((4, ((None, 1, 0),)), 0),
    ((4, (((0,), 1, 0),)), 0), ((4, ((0, 1, (0,)),)), 0), ((4, ((0, 10 ** 40, 0),)), 0), ((1, ((0, 1, 0),)), 0),
    ((1, ((0, 0, 0),)), 0), ((4, ((0, 1, 0), (0, 4, 0))), 1), ((4, ((0, 1, 0), (1, 2, 2), (3, 2, 1))), 2),
    ((4, ((0, 1, 0), None, (3, 2, 1))), 1), ((9, ((0, 8, 0),) * 11 + ((0, 9, 0),)), 11),
]

WRONG = {
    "yard": ODD + [yard for yard, _ in WRONG_YARDS],
    "number": ODD + [3, 4, (0,), (1, 2)],
    "lot": ODD + [0, 1, (1, 0), (0, 0), (0, 2, 2), (0, 2, 1), (3,), (0, 3), (-1, 0), (0, 1, 2, 3), "012", (0, True)],
    "room": ODD + [4, 5, (0,), (1, 2), (0, 3, 0)],
    "order": ODD + [(), 0, 2, (0, 1), (0, 1, 2, 3), (0, 1, 1), (0, 0, 1), (0, 1, 3), (1, 2, 3), (-1, 0, 1), "012",
                    (0, 1, 2, 2), (False, 1, 2), (0, True, 2), (2, 1, None), ((0, 1, 2),), {0: 0, 1: 1, 2: 2}],
}

ERRORS = {
    "yard": BadYard,
    "number": BadWall,
    "lot": BadLot,
    "room": BadRoom,
    "order": BadOrder,
}
