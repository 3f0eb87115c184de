"""The examples of the document's interface, each heading's as it stands there."""

import unittest

from walledin.errors import BadYard, InvalidText


class Examples(unittest.TestCase):
    def test_yards(self):
        from walledin.yards import rooms_come_to, rooms_open_to, sides, steps_between, touching
        ring = (3, ((0, 1, 0), (1, 2, 1), (0, 2, 2)))
        self.assertEqual(
            [sides(ring, 2), rooms_come_to(ring, (0, 1)), rooms_open_to(ring, (0, 1)),
             steps_between(ring, (0, 1), 0, 2), touching(ring, 1)],
            [(0, 2), (0, 1), (0, 1, 2), 2, (0, 1)])
        with self.assertRaises(BadYard) as caught:
            sides((2, ((0, 1, 0), (1, 0, 0))), 0)
        self.assertEqual(caught.exception.index, 1)

    def test_orders(self):
        from walledin.orders import can_walk, first_order, has_order, is_order, last_order, stands, stuck_at
        line = (3, ((0, 1, 0), (1, 2, 0)))
        self.assertEqual(
            [is_order(line, (1, 0)), is_order(line, (0, 1)), stuck_at(line, (0, 1)), stands(line, (1, 0)),
             can_walk(line, (1, 0), 2), first_order(line), last_order(line), has_order((2, ((0, 1, 1),)))],
            [True, False, 1, (1, 0), True, (1, 0), (1, 0), False])

    def test_lots(self):
        from walledin.lots import all_gaps, can_come, can_go, count_open, heart, is_open, only_open, open_lots
        line = (3, ((0, 1, 0), (1, 2, 0)))
        self.assertEqual(
            [open_lots(line), count_open(line), is_open(line, (1,)), heart(line, (1,)), can_go(line, (0, 1)),
             can_come(line, (0,)), all_gaps(line), only_open(line, (1,))],
            [[(), (0,), (0, 1)], (1, 1, 1), False, (), (1,), (1,), (0, 1), (3, ((1, 2, 0),))])

    def test_traps(self):
        from walledin.traps import cures, greatest_trap, is_trap, least_trap_with, least_traps, traps, walls_around
        back = (3, ((0, 1, 0), (1, 2, 1)))
        self.assertEqual(
            [traps(back), greatest_trap(back), least_traps(back), is_trap(back, (1, 2)), least_trap_with(back, 2),
             cures(back), walls_around(back, (1,))],
            [[(2,)], (2,), [(2,)], False, (2,), (1,), (0, 1)])

    def test_ways(self):
        from walledin.ways import (always_ahead, both_first, free_ones, gate_table, gates, greatest_back, hanging_on,
                                   last_gate, least_back, places, shortest_way, ways)
        ring = (3, ((0, 1, 0), (1, 2, 2), (0, 2, 0), (1, 2, 0)))
        line = (4, ((0, 1, 0), (1, 2, 0), (2, 3, 0)))
        self.assertEqual(
            [ways(ring, 3), shortest_way(ring, 1), least_back(line, 2), greatest_back(ring, 0), places(ring, 3),
             gates(line, 2), last_gate(line, 2), gate_table(line), hanging_on(line, 0), free_ones(line),
             always_ahead(line, 0, 2), both_first(ring, 0, 3)],
            [[(0, 3), (2, 1, 3)], (0, 1), 3, 4, (0, 1, 2), (0, 1), 1, (None, 0, 1), (1, 2), (2,), True, True])

    def test_counts(self):
        from walledin.counts import (ahead_chance, count_orders, mean_place, next_order, order_at, place_counts,
                                     rank_of, swaps)
        star = (4, ((0, 1, 0), (0, 2, 0), (0, 3, 0)))
        self.assertEqual(
            [count_orders(star), order_at(star, 5), rank_of(star, (1, 0, 2)), next_order(star, (1, 0, 2)),
             place_counts(star, 1), mean_place(star, 0), ahead_chance(star, 0, 1), swaps(star, (0, 1, 2))],
            [6, (2, 1, 0), 2, (1, 2, 0), (2, 2, 2), (1, 1), (1, 2), (0, 1)])

    def test_sameness(self):
        from walledin.sameness import (added, fewest_added, least_added, loose, orders_lost, orders_without,
                                       same_orders, taken_out, tight)
        line = (3, ((0, 1, 0), (1, 2, 0)))
        self.assertEqual(
            [same_orders(line, (3, ((0, 1, 2), (1, 2, 2)))), orders_lost(line, 1, 1), tight((2, ((0, 1, 2),))),
             loose((2, ((0, 1, 0),))), added(line, ((0, 2, 1),)), taken_out(line, 0), orders_without(line, 0),
             fewest_added((3, ((1, 2, 0),))), least_added((3, ((1, 2, 0),)))],
            [True, 1, (2, ((0, 1, 0),)), (2, ((0, 1, 2),)), (3, ((0, 1, 0), (1, 2, 0), (0, 2, 1))),
             (3, ((1, 2, 0),)), 0, 1, ((0, 1, 0),)])

    def test_spans(self):
        from walledin.spans import (count_room_orders, count_spans, cutters, is_span, orders_of_rooms,
                                    orders_with_span, room_order, room_orders, spans, tree_of)
        ring = (3, ((0, 1, 0), (1, 2, 2), (0, 2, 0)))
        self.assertEqual(
            [spans(ring), count_spans(ring), is_span(ring, (0, 1)), cutters(ring, (1, 0, 2)), tree_of(ring, (1, 0, 2)),
             room_order(ring, (1, 0, 2)), room_orders(ring), count_room_orders(ring), orders_with_span(ring, (0, 2)),
             orders_of_rooms(ring, (1, 2))],
            [[(0, 1), (0, 2), (1, 2)], 3, True, (0, 2), (0, 2), (1, 2), [(1, 2), (2, 1)], 2, 2, 2])

    def test_trees(self):
        from walledin.trees import first_chance, hanging, is_tree, order_of_tree, tree_cost, tree_gate, tree_orders
        fork = (4, ((0, 1, 0), (1, 2, 0), (1, 3, 2)))
        self.assertEqual(
            [is_tree(fork), hanging(fork), tree_orders(fork), tree_gate(fork, 2), first_chance(fork, 0),
             order_of_tree(fork, (2, 1, 0)), tree_cost(fork, (0, 5, 9))],
            [True, (3, 1, 1), 2, 0, (1, 1), True, 33])

    def test_dues(self):
        from walledin.dues import cheap_order, count_cheap, delay, due_order, in_time, least_cost, least_delay
        fork = (4, ((0, 1, 0), (1, 2, 0), (1, 3, 2)))
        self.assertEqual(
            [delay(fork, (1, 2, 0), (1, 1, 1)), least_delay(fork, (3, 1, 2)), due_order(fork, (3, 1, 2)),
             in_time(fork, (3, 2, 2)), least_cost(fork, (1, 1, 2)), cheap_order(fork, (0, 0, 0)),
             count_cheap(fork, (0, 0, 0))],
            [2, 0, (1, 2, 0), 2, 7, (1, 2, 0), 2])

    def test_days(self):
        from walledin.days import fewest_days, is_plan, late_plan, masons_for, room_depths, tree_days, widest
        star = (4, ((0, 1, 0), (0, 2, 0), (0, 3, 0)))
        self.assertEqual(
            [fewest_days(star, 2), masons_for(star, 1), is_plan(star, ((0,), (1, 2))), late_plan(star),
             tree_days(star, 2), widest(star), room_depths(star)],
            [2, 3, True, ((0, 1, 2),), 2, 3, (0, 1, 1, 1)])

    def test_windows(self):
        from walledin.windows import first_within, orders_within, place_table, walls_at
        star = (4, ((0, 1, 0), (0, 2, 0), (0, 3, 0)))
        self.assertEqual(
            [orders_within(star, ((0, 0), (0, 2), (1, 1))), first_within(star, ((0, 0), (0, 2), (1, 1))),
             walls_at(star, 0), place_table(star)],
            [1, (0, 2, 1), (0, 1, 2), ((2, 2, 2), (2, 2, 2), (2, 2, 2))])

    def test_walks(self):
        from walledin.walks import (has_walk, least_start, least_walk, mason_rooms, short_order, stays_put,
                                    walk_length, walks_well)
        line, star = (3, ((0, 1, 0), (1, 2, 0))), (4, ((0, 1, 0), (0, 2, 2), (0, 3, 0)))
        self.assertEqual(
            [walk_length(line, (1, 0), 2), mason_rooms(line, (1, 0), 0), least_walk(star, 2), short_order(star, 2),
             least_start(line), walks_well(line, (1, 0), 1), stays_put(star, (1, 0, 2)), has_walk(line, 2)],
            [2, (1, 0), 1, (0, 1, 2), 1, True, (0, 1), True])

    def test_outsides(self):
        from walledin.outsides import (count_team_orders, ends_of, fewest_masons, good_ends, has_order_at, has_team,
                                       is_order_with, least_teams, team_can)
        line = (3, ((0, 1, 0), (1, 2, 1)))
        self.assertEqual(
            [ends_of(line, (0, 1)), is_order_with(line, (0, 1), (0, 2)), good_ends(line), has_order_at(line, 0),
             team_can(line, (0, 1), (0, 2)), has_team(line, (0,)), least_teams(line), fewest_masons(line),
             count_team_orders(line, (0, 2))],
            [(), False, (), False, True, False, [(0, 2)], 2, 2])

    def test_luck(self):
        from walledin.luck import cool_order, first_moves, greatest_warmth, least_warmth, luck, warmth
        line = (3, ((0, 1, 0), (1, 2, 0)))
        self.assertEqual(
            [luck(line, 0), first_moves(line, 0), warmth(line, (1, 0)), least_warmth(line), greatest_warmth(line),
             cool_order(line)],
            [(1, 2), ((0, 0), (1, 1)), 1, 1, 1, (1, 0)])

    def test_growths(self):
        from walledin.growths import growth_chance, last_chance, likeliest, open_chance, sides_used, why_not
        star, line = (4, ((0, 1, 0), (0, 2, 0), (0, 3, 0))), (3, ((0, 1, 0), (1, 2, 2)))
        self.assertEqual(
            [growth_chance(star, (2, 1, 0)), open_chance(star, (0, 1)), last_chance(line, 1), likeliest(star),
             why_not(line, (0, 1)), sides_used(line, 1)],
            [(1, 6), (1, 3), (1, 1), (0, 1, 2), (1, (1, 2)), (1,)])

    def test_choices(self):
        from walledin.choices import (chance_of_order, change_lots, choices, count_choices, count_holding,
                                      fewest_changes, is_holding, sides_of_yard, turned, with_sides)
        ring, back = (3, ((0, 1, 0), (1, 2, 0), (0, 2, 2))), (3, ((0, 1, 1), (1, 2, 0)))
        self.assertEqual(
            [count_choices(ring), count_holding(ring), choices(back), is_holding(ring, (0, 1)), fewest_changes(back),
             change_lots(back), sides_of_yard(ring), turned(back, (0,)), with_sides(back, (2, 1)),
             chance_of_order(back, (1, 3))],
            [4, (0, 0, 3, 1), [(0, 0)], True, 1, [(0,)], (0, 0, 2), (3, ((0, 1, 0), (1, 2, 0))),
             (3, ((0, 1, 2), (1, 2, 1))), (1, 9)])

    def test_closing(self):
        from walledin.closing import (cut_off, cut_times, cut_together, greatest_cut, last_cut, least_cut,
                                      never_joined, room_gates, rooms_between)
        line = (3, ((0, 1, 0), (1, 2, 0)))
        self.assertEqual(
            [cut_times(line, (1, 0)), cut_off(line, (0, 1), 2), last_cut(line, (1, 0)), least_cut(line, 2),
             greatest_cut(line, 2), cut_together(line, 1, 2), never_joined((3, ((0, 1, 0),))), room_gates(line, 2),
             rooms_between(line, 2)],
            [(2, 1), 1, (1,), 1, 1, False, (2,), (0, 1), (1,)])

    def test_rings(self):
        from walledin.rings import (bridges, can_be_round, count_ringless, count_round, is_ringless, is_round,
                                    ringless_choices, round_choices, round_rooms)
        ring = (3, ((0, 1, 0), (1, 2, 0), (0, 2, 1)))
        self.assertEqual(
            [is_ringless(ring), is_round(ring), round_rooms(ring), count_ringless(ring), ringless_choices(ring),
             count_round(ring), round_choices(ring), bridges(ring), can_be_round(ring)],
            [False, True, (0, 1, 2), 2, [(0, 0, 0), (0, 1, 0)], 2, [(0, 0, 1), (1, 1, 0)], (), True])

    def test_duels(self):
        from walledin.duels import builder_wins, duel_table, good_starts
        self.assertEqual(
            [builder_wins((2, ((0, 1, 0),)), 1), good_starts((2, ((0, 1, 0),)), 0),
             duel_table((2, ((0, 1, 0), (0, 1, 0))))],
            [False, ((0, 0),), (True, True)])

    def test_texts(self):
        from walledin.texts import read_order, read_yard, write_order, write_yard
        ring = (3, ((0, 1, 0), (1, 2, 1), (0, 2, 2)))
        self.assertEqual(
            [write_yard(ring), read_yard("3:0<1 1>2 0=2"), write_order(ring, (2, 0, 1)), read_order(ring, "2,0,1"),
             read_yard("1:")],
            ["3:0<1 1>2 0=2", (3, ((0, 1, 0), (1, 2, 1), (0, 2, 2))), "2,0,1", (2, 0, 1), (1, ())])
        with self.assertRaises(InvalidText) as caught:
            read_yard("3:0<3")
        self.assertEqual(caught.exception.place, 4)

    def test_sites(self):
        from walledin.sites import Site
        site = Site((4, ((0, 1, 0), (1, 2, 2))), 1)
        self.assertEqual(
            [site.safe(), site.put(1), site.done, site.can_finish(), site.walk(0), site.put(0), site.gaps,
             site.can_finish(), site.undo(), site.room, site.undoable],
            [(1,), None, (1,), True, None, None, (), True, None, 0, 2])

    def test_glue(self):
        from walledin.glue import beside, onto, part_yards, parts, renamed
        line = (3, ((0, 1, 0), (1, 2, 0)))
        self.assertEqual(
            [beside(line, (2, ((0, 1, 1),))), onto(line, (2, ((0, 1, 2),)), 2), renamed(line, (2, 1)),
             parts((3, ((0, 1, 0), (0, 2, 0)))), part_yards((4, ((1, 3, 0),)))],
            [(4, ((0, 1, 0), (1, 2, 0), (0, 3, 1))), (4, ((0, 1, 0), (1, 2, 0), (2, 3, 2))),
             (3, ((0, 2, 0), (1, 2, 1))), ((0,), (1,)), ((3, ((1, 2, 0),)),)])

    def test_likes(self):
        from walledin.likes import (alike, classes, count_alike, first_like, swaps_between, symmetries, unlike_pairs)
        star, line = (3, ((0, 1, 0), (0, 2, 0))), (3, ((0, 2, 0), (1, 2, 1)))
        self.assertEqual(
            [symmetries(star), classes(star), count_alike(star), count_alike(line), alike(star, line),
             first_like(line), swaps_between(star, (0, 1), (1, 0)), unlike_pairs(star, (0, 1), (1, 0))],
            [[(1, 2), (2, 1)], ((0,), (1, 2)), 1, 2, False, (3, ((0, 1, 0), (1, 2, 0))), 1, 1])


if __name__ == "__main__":
    unittest.main()
