"""Every example of the document for the stages that stand, with the answer below it."""

import unittest

from risenets import errors
from risenets.base import ranges
from risenets.change import feeds, one
from risenets.ends import boxes, recipes, seen
from risenets.fit import currents, heights
from risenets.judge import claims
from risenets.net import nets, painting, sums
from risenets.plane import faces
from risenets.rise import energies, joins, rises
from risenets.state import box, states
from risenets.state import energies as net_energies
from risenets.talk import bench, texts
from risenets.time import tanks
from risenets.told import readings

# A row that begins with >>> is run; the row below it is its answer, if it has one.
EXAMPLES = r"""
>>> DIODE, BATTERY, FUSE = ("steep", ((0, 0),)), ("level", 5), ("steep", ((-2, 0), (2, 0)))
>>> STEPS, STAIRS = ("steep", ((0, 0), (2, 0), (2, 3), (4, 3))), ("flat", ((0, -1), (0, 1), (1, 1), (1, 2), (2, 2), (2, 3)))
>>> [is_range((3, 3)), is_range((4, 3)), is_range((None, None)), is_in((None, 4), 4), is_in((1, None), True), nearest((2, 5), 9), nearest((None, 5), -8)]
[True, False, True, True, False, 5, -8]
>>> [turned_range((None, 4)), added_ranges((1, 2), (None, 3)), less_range((1, 2), (None, 3)), shared_range((1, 5), (4, None)), shared_range((1, 5), (6, 7))]
[(-4, None), (None, 5), (-2, None), (4, 5), None]
>>> [all_shared(((None, 4), (2, 9), (3, None))), is_all_shared(((0, 1), (1, 2), (3, 4)), ("apart", 1, 2)), is_all_shared(((0, 1), (1, 2), (3, 4)), ("apart", 2, 1))]
[('shared', (3, 4)), True, False]
>>> nearest((0, 1), None)
raises InvalidNumber(None)
>>> [is_rise(DIODE), is_rise(("flat", ((0, 0), (1, 0)))), currents_of(STEPS), tensions_of(STEPS), currents_of(DIODE), tensions_of(DIODE)]
[True, False, (0, 4), (None, None), (0, None), (None, 0)]
>>> [tensions_at(STEPS, 2), tensions_at(STEPS, 0), tensions_at(STEPS, 1), tensions_at(STEPS, 5), currents_at(STEPS, 0), currents_at(STEPS, 1), currents_at(STEPS, -7), currents_at(DIODE, 1)]
[(0, 3), (None, 0), (0, 0), None, (0, 2), (2, 2), (0, 0), None]
>>> [pieces(DIODE), place_of(DIODE, 3, 1), place_of(DIODE, 3, -1), is_crossing(DIODE, 3, 1, (4, 0)), is_crossing(DIODE, 3, 1, (3, 0)), crossing(DIODE, 0, -5)]
[(('steep', 0, None, 0), ('flat', 0, 0, None)), 'above', 'below', True, False, None]
>>> [rise_of("flat", ((0, 1), (2, 1), (2, 1), (2, 4), (5, 4)), "flat"), rise_of("flat", ((3, 3),), "flat"), rise_of("steep", ((3, 3), (3, 7)), "steep")]
[('flat', ((2, 1), (2, 4))), ('level', 3), ('plumb', 3)]
>>> tensions_at(("level", 10 ** 19), 0)
raises InvalidRise
>>> [turned(DIODE), transposed(DIODE), moved(STEPS, -2, 1), beside(BATTERY, STEPS), in_row(BATTERY, STEPS)]
[('flat', ((0, 0),)), ('flat', ((0, 0),)), ('steep', ((-2, 1), (0, 1), (0, 4), (2, 4))), ('level', 5), ('steep', ((0, 5), (2, 5), (2, 8), (4, 8)))]
>>> [beside(STEPS, ("plumb", 1)), beside(DIODE, DIODE), in_row(DIODE, turned(DIODE)), beside(DIODE, ("flat", ((0, 0),)))]
[('steep', ((1, 0), (3, 0), (3, 3), (5, 3))), ('steep', ((0, 0),)), ('plumb', 0), ('level', 0)]
>>> [beside(STEPS, ("steep", ((0, 0), (1, 0)))), meeting(("plumb", -3), STEPS), meeting(("plumb", 1), STEPS), meetings(("plumb", -2), STEPS)]
[('steep', ((0, 0), (3, 0), (3, 3), (5, 3))), ('met', -3, 3), ('apart', 'currents'), ((-2, -2), (0, 3))]
>>> [is_meeting(DIODE, ("level", 1), ("apart", "tensions")), is_meeting(DIODE, ("level", 0), ("met", 4, 0)), meetings(DIODE, ("level", 0)), parting(DIODE, DIODE), is_parting(DIODE, STEPS, (3, 0))]
[True, True, ((0, None), (0, 0)), None, True]
>>> beside(("level", 1), ("level", 2))
raises Refused(('tensions',))
>>> [anchor_of(STAIRS), anchor_of(BATTERY), area_under(STAIRS, 2), area_under(STAIRS, 4), area_under(STAIRS, -3), area_beside(STAIRS, 3), area_beside(STAIRS, 4)]
[(0, -1), (0, 5), 3, 9, 3, 3, None]
>>> [gap_of(STAIRS, 1, 2), gap_of(STAIRS, 3, 0), gap_of(DIODE, 3, -4), gap_of(DIODE, -1, 0), gap_of(BATTERY, 3, 5), gap_of(FUSE, 1, 4)]
[0, 6, 12, None, 0, 4]
>>> [area_under(BATTERY, 3), area_under(FUSE, 2), area_under(FUSE, 3), area_beside(FUSE, 7), area_beside(FUSE, -3), work_between(STAIRS, 4, 1), work_between(DIODE, 2, -1)]
[15, 0, None, 14, 6, -8, None]
>>> [lowest_up(STAIRS), lowest_up(DIODE), lowest_up(BATTERY), lowest_up(FUSE)]
[(0, (0, 0)), (0, (0, None)), None, (0, (-2, 2))]
>>> area_under(STAIRS, True)
raises InvalidNumber(True)
>>> RING = Net(4, ((0, 1, BATTERY), (1, 2, DIODE), (2, 0, DIODE), (0, 1, FUSE)))
>>> [str(RING), len(RING), surplus(RING, (2, 3, 3, 1)), surplus(RING, (2, 2, 3, 1)), drops(RING, (7, 5, 5, 0)), work(RING, (2, 2, 3, 1), (7, 5, 5, 0))]
['net of 4 knots, 4 wires', 4, (0, 0, 0, 0), (0, 1, -1, 0), (2, 0, -2, 2), 0]
>>> [components(RING), cut_wires(RING, (0, 3)), is_cut(RING, (3, 0)), is_loop(RING, ((0, 1), (3, -1))), is_loop(RING, ((0, 1), (1, 1), (2, 1), (0, 1)))]
[((0, 1, 2), (3,)), ((0, 3), (2,)), False, True, False]
>>> [loop_currents(RING, ((3, 1), (0, -1))), cut_heights(RING, (1,)), is_loops_of(RING, (2, 3, 3, 1), ((((0, 1), (1, 1), (2, 1)), 2), (((1, 1), (2, 1), (3, 1)), 1)))]
[(-1, 0, 0, 1), (0, 1, 0, 0), True]
>>> [cuts_of(RING, (7, 5, 5, 0)), is_heights_or_turn(RING, (1, 1, -2, 1), ("heights", (4, 3, 2, 9))), is_heights_or_turn(RING, (1, 1, -2, 2), ("loop", ((3, 1), (0, -1))))]
[(((0,), 2), ((0, 1, 2), 5)), True, True]
>>> loops_of(RING, (2, 2, 3, 1))
raises Refused(('surplus', 1))
>>> TURN = Net(4, ((0, 1, DIODE), (1, 2, DIODE), (2, 0, DIODE), (2, 3, DIODE)))
>>> KINDS = ("one", "one", "free", "one")
>>> [parted(TURN, KINDS), reached(TURN, KINDS, 1), is_loop_or_cut(TURN, KINDS, 0, ("loop", ((0, 1), (1, 1), (2, 1)))), is_loop_or_cut(TURN, KINDS, 3, ("cut", (0, 1, 2)))]
[((0, 1), (3,)), (0, 1, 2, 3), True, True]
>>> [parted(TURN, ("one", "one", "barred", "one")), is_cut_of(TURN, ("one", "one", "barred", "one"), (0, 3)), is_loop_of(TURN, KINDS, ((2, -1),))]
[((), (0, 1, 3)), False, False]
>>> [is_witness(TURN, KINDS, ((1, 1, 1, 0), (1, 1, 1, 0))), is_witness(TURN, KINDS, ((1, 1, 1, 0), (0, 0, 0, 0))), is_kinds(TURN, ("one",) * 3)]
[True, False, False]
>>> loop_or_cut(TURN, KINDS, 2)
raises InvalidOperation
>>> LANES = Net(3, ((0, 1, FUSE), (0, 1, DIODE), (1, 2, STEPS), (2, 0, ("level", 0))))
>>> [current_ranges(LANES), current_ends(LANES, (0, 0, 0), 0), current_ends(LANES, (0, 0, 0), 3), current_ends(LANES, (4, 0, -4), 1)]
[((-2, 2), (0, None), (0, 4), (None, None)), (-2, 2), (0, 4), (0, 6)]
>>> [is_within(LANES, (4, 0, -4), (2, 0, 2, -2)), is_fed_or_cut(LANES, (0, 4, -4), ("currents", (-2, 0, 2, -2))), fed_or_cut(LANES, (0, 0, 0))[0]]
[True, True, 'currents']
>>> [is_most_current(LANES, (0, 0, 0), 3, ("most", 4, (2, 2, 4, 4), (2,))), is_most_current(LANES, (0, 0, 0), 2, ("most", 4, (1, 3, 4, 4), None))]
[True, True]
>>> [most_current(Net(2, ((0, 1, BATTERY), (1, 0, DIODE))), (0, 0), 0)[0], fed_or_cut(Net(2, ((0, 1, FUSE),)), (3, -3)), fed_or_cut(Net(2, ()), (1, -1))]
['endless', ('cut', (1,)), ('cut', (1,))]
>>> current_ends(Net(1, ()), (0,), 0)
raises InvalidNumber(0)
>>> LIT, JAM = Net(2, ((0, 1, BATTERY), (1, 0, DIODE))), Net(2, ((0, 1, BATTERY), (0, 1, DIODE)))
>>> [spans_of(LIT), heights_or_loop(JAM, spans_of(JAM))[0], do_fit(LIT, spans_of(LIT), (7, 2)), do_fit(LIT, spans_of(LIT), (7, 3))]
[((5, 5), (None, 0)), 'loop', True, False]
>>> [is_barring(JAM, spans_of(JAM), ((0, 1), (1, -1))), is_barring(JAM, spans_of(JAM), ((0, -1), (1, 1)))]
[True, False]
>>> LINE, SPANS = Net(3, ((0, 1, STAIRS), (1, 2, STAIRS))), ((1, 3), (0, None))
>>> [greatest_row(LINE, SPANS, 0), least_row(LINE, SPANS, 0), most_apart(LINE, SPANS, 0, 2), most_apart(LINE, SPANS, 2, 0)]
[(0, -1, -1), (0, -3, None), ('most', -1, ((0, 1), (1, 1))), ('endless', (0, 1))]
>>> [is_most_apart(LINE, SPANS, 1, 0, ("most", 3, ((0, -1),))), is_most_apart(LINE, SPANS, 0, 0, ("most", 0, ())), is_most_apart(LINE, SPANS, 2, 0, ("endless", (0,)))]
[True, True, False]
>>> spans_of(LINE) == ((-1, 3), (-1, 3))
True
>>> LAMP = Net(3, ((0, 1, BATTERY), (1, 2, DIODE), (2, 0, STAIRS)))
>>> [is_state(LAMP, ((0, 0, 0), (0, -5, -1))), is_state(LAMP, ((0, 0, 0), (0, -5, 2))), broken_wires(LAMP, (1, 1, 1), (0, -5, 1)), surplus_knots(LAMP, (1, 1, 2))]
[True, False, (1,), {0: 1, 2: -1}]
>>> state_or_fight(Net(2, ((0, 1, BATTERY), (0, 1, ("level", 4)))))[0]
'loop'
>>> is_fight(Net(2, ((0, 1, ("plumb", 3)), (1, 0, FUSE))), ("cut", (0,)))
True
>>> PAIR = Net(2, ((0, 1, FUSE), (0, 1, FUSE), (1, 0, ("plumb", 3))))
>>> [furthest_current(PAIR, 0, 1)[:2], furthest_current(PAIR, 0, -1)[:2], is_furthest_current(PAIR, 0, 1, ("current", 2, ((2, 1, 3), (0, 0)), ()))]
[('current', 2), ('current', 1), True]
>>> [mixed(PAIR, ((2, 1, 3), (0, 0)), ((1, 2, 3), (4, 4))), furthest_height(PAIR, 0, 1)[:2], is_only(PAIR), least_heights(PAIR, 0)]
[((2, 1, 3), (4, 4)), ('height', 0), False, (0, 0)]
>>> furthest_current(Net(2, ((0, 1, BATTERY), (0, 1, BATTERY))), 0, 1)[0]
'endless'
>>> ROW = Net(3, ((0, 1, FUSE), (1, 2, DIODE)))
>>> [seen(ROW, 0, 2), seen(ROW, 2, 0), seen(Net(2, ()), 0, 1), seen(PAIR, 0, 1)]
[('rise', ('steep', ((0, 0), (2, 0)))), ('rise', ('steep', ((-2, 0), (0, 0)))), ('rise', ('plumb', 0)), ('rise', ('steep', ((-7, 0), (1, 0))))]
>>> [is_with(ROW, 0, 2, 1, ((1, 1), (0, 0, 0))), is_seen_paper(ROW, 0, 2, ("rise", ("steep", ((0, 0), (2, 0))), (((0, 0), (0, 0, 0)), ((2, 2), (0, 0, 0))), (2,), (0,)))]
[True, True]
>>> seen(Net(3, ((0, 1, ("plumb", 1)), (0, 2, FUSE))), 0, 2)
('cut', (0, 2))
>>> ROWBOX, LONE = (ROW, 0, 2), (Net(2, ((0, 1, ("steep", ((0, 0), (2, 0)))),)), 0, 1)
>>> [alike_or_parted(ROWBOX, LONE), alike_or_parted(ROWBOX, (ROW, 2, 0))[0], is_alike_answer(ROWBOX, (ROW, 2, 0), ("parted", 0, 1, 0)), is_had(ROWBOX, battery(0), ((-1,), (3, 3)))]
[('alike',), 'parted', True, True]
>>> RING = Net(2, ((0, 1, ("steep", ((0, 0), (2, 0)))), (1, 0, ("plumb", 1))))
>>> [put_in(RING, 0, ROWBOX).wires[1:], filled(RING, 0, ROWBOX, ((1, 1), (4, 4))), read_off(RING, 0, ROWBOX, ((1, 1, 1), (4, 4, 4)))]
[((0, 2, ('steep', ((-2, 0), (2, 0)))), (2, 1, ('steep', ((0, 0),)))), ((1, 1, 1), (4, 4, 4)), ((1, 1), (4, 4))]
>>> TORCH, JAM = Net(2, ((0, 1, BATTERY), (1, 0, FUSE))), Net(2, ((0, 1, BATTERY), (0, 1, DIODE)))
>>> [energy_of(TORCH, (-2, -2)), floor_of(TORCH, (5, 0)), gaps_of(TORCH, (0, 0), (5, 0)), least_energy(TORCH)[:2], best_or_loop(TORCH, (-2, -2))[0]]
[-10, -10, (0, 10), ('least', -10), 'best']
>>> [best_or_loop(TORCH, (1, 1))[2], is_best_or_loop(TORCH, (1, 1), ("loop", ((1, -1), (0, -1)), 5)), best_or_knots(TORCH, (9, 4))]
[5, True, ('best', (-2, -2))]
>>> [is_least_energy(JAM, ("falls", (-3, 3), ((0, 1), (1, -1)))), least_energy(Net(2, ((0, 1, ("plumb", 3)),)))]
[True, ('cut', (0,))]
>>> TWIN = Net(2, ((0, 1, STAIRS), (0, 1, ("plumb", -2))))
>>> [best_or_knots(TWIN, (0, 0)), best_or_knots(TWIN, (3, 0)), energy_of(TWIN, (2, -2)), floor_of(TWIN, (0, 0)), floor_of(TWIN, (3, 0))]
[('knots', (0,), 2), ('best', (2, -2)), 3, 0, 3]
>>> best_or_loop(TORCH, (3, 3))
raises Refused(('wire', 1))
>>> TWIN = Net(2, ((0, 1, STAIRS), (1, 0, ("steep", ((-1, 0), (1, 0))))))
>>> [points_of(TWIN, 0), rest_of(TWIN, 0), points_of(moved_net(TWIN, 0, 0, 1), 0), points_of(moved_net(TWIN, 0, 0, 2), 0)]
[((0, 0), (0, 0)), ('rise', ('steep', ((-1, 0), (1, 0)))), ((-1, 0), (0, 0)), ((-1, -1), (1, 1))]
>>> [range_up(TWIN, 0), range_right(TWIN, 0), range_right(Net(2, ((0, 1, FUSE), (1, 0, ("plumb", 1)))), 0), has_state_with(TWIN, 0, ("plumb", 2))]
[(None, None), (None, None), (-1, 3), False]
>>> [does_keep(TWIN, 0, ("level", 0), ((0, 0), (4, 4))), fixed(TWIN, ((0, 0), (4, 4)), ("level", "as it is")).wires[0]]
[True, (0, 1, ('level', 0))]
>>> FALL, LIMIT = Net(3, ((1, 0, STAIRS), (2, 1, STAIRS))), Net(2, ((1, 0, FUSE),))
>>> [least_fed(FALL, (-1, 0, 1)), greatest_fed(FALL, (-1, 0, 1)), risen(FALL, (-1, 0, 1), 1, 1), risen(FALL, (-1, 0, 1), 2, 1)]
[(0, 1, 2), (0, 2, 4), ((0, 1, 1), (0, 1, 1)), ((0, 1, 2), (0, 1, 2))]
>>> [most_fed(LIMIT, (0, 0), 1), most_fed(FALL, (-1, 0, 1), 2), greatest_fed(LIMIT, (-2, 2)), fed_or_fight(LIMIT, (-3, 3))]
[('most', 2, (0,)), ('endless', ((1, 1), (0, 1))), (0, None), ('cut', (0,))]
>>> [fed_rise(LIMIT, (0, 0), 1) == FUSE, fed_rise(FALL, (-1, 0, 1), 1), is_fed_state(FALL, (-1, 0, 1), ((1, 1), (0, 1, 3)))]
[True, ('flat', ((-1, -1), (-1, 1), (0, 1), (0, 2), (1, 2), (1, 3))), True]
>>> least_fed(LIMIT, (3, -3))
raises Refused(('cut', (1,)))
>>> CHAIN = Net(4, ((0, 1, FUSE), (2, 1, DIODE), (2, 1, DIODE), (3, 0, STAIRS)))
>>> [between(CHAIN, 0, 2), is_recipe(CHAIN, 0, 2, ("row", ("wire", 0, 1), ("side", ("wire", 1, -1), ("wire", 2, -1)))), recipe_or_bridge(CHAIN, 0, 2)[0], joined(CHAIN, 0, 2)]
[(0, 1, 2), True, 'recipe', (2, 1)]
>>> FOUR = Net(4, ((0, 1, STAIRS), (0, 2, STAIRS), (1, 2, STAIRS), (1, 3, STAIRS), (2, 3, STAIRS)))
>>> [is_bridge(FOUR, 0, 3, ("bridge", (0, 1, 2, 3), (((0, 1),), ((1, 1),), ((5, 1),), ((2, 1),), ((3, 1),), ((4, 1),)))), joined(FOUR, 0, 3), recipe_or_bridge(FOUR, 0, 1)[0]]
[True, (4, 5), 'recipe']
>>> TWO, ODD = Net(3, ((0, 1, FUSE), (1, 2, DIODE))), Net(3, ((0, 1, ("plumb", 1)), (1, 2, ("plumb", 2))))
>>> WHOLE = ("row", ("wire", 0, 1), ("wire", 1, 1))
>>> [recipe_rise(TWO, 0, 2, WHOLE), recipe_rise(ODD, 0, 2, WHOLE), recipe_or_bridge(Net(2, ()), 0, 1)]
[('rise', ('steep', ((0, 0), (2, 0)))), ('apart', ('row', ('wire', 0, 1), ('wire', 1, 1))), ('none',)]
>>> recipe_rise(TWO, 0, 2, ("wire", 0, 1))
raises InvalidOperation
>>> CIRCLE = ((0, 2), (0, 1), (1, 2))
>>> [faces_by(LAMP, CIRCLE), is_plane(LAMP, CIRCLE), dual_by(LAMP, CIRCLE)[0].wires[:2], dual_by(LAMP, CIRCLE)[1], dual_state(LAMP, CIRCLE, ((0, 0, 0), (0, -5, -1)))]
[(((0, -1), (2, -1), (1, -1)), ((0, 1), (1, 1), (2, 1))), True, ((1, 0, ('plumb', 5)), (1, 0, ('flat', ((0, 0),)))), ((0, 2, 1), (0, 1, 2)), ((5, -4, -1), (0, 0))]
>>> [dual_loop(LAMP, CIRCLE, ((0, 1), (1, 1), (2, 1))), dual_cut(LAMP, CIRCLE, (1,)), [wire[:2] for wire in dual_by(*dual_by(LAMP, CIRCLE))[0].wires]]
[(1,), ((0, -1), (1, 1)), [(1, 0), (0, 2), (2, 1)]]
>>> FULL = Net(5, tuple([(one, other, DIODE) for other in range(5) for one in range(other)]))
>>> [turns_or_bars(FULL)[0], turns_or_bars(Net(5, FULL.wires[1:]))[0], is_bars(FULL, ((0, 1, 2, 3, 4), ()))]
['bars', 'turns', False]
>>> dual_by(ROW, ((0,), (0, 1), (1,)))
raises Refused(('bridge', 0))
>>> SLOPE = ("steep", ((0, 0), (1, 0), (1, 1), (2, 1), (2, 2)))
>>> POOLS = Tanks(Net(3, ((1, 2, FUSE),)), ((1, SLOPE, 3), (2, SLOPE, 0)))
>>> [str(POOLS), POOLS.sums(), POOLS.rest_or_loop()[0], POOLS.is_rest_or_loop(("loop", ((1, 1), (2, -1), (0, -1))))]
['2 tanks, 3 stored', {1: 3}, 'loop', True]
>>> [POOLS.is_tick(((1, -1, 1), (0, 1, 1))), POOLS.is_tick(((2, -2, 2), (0, 1, 1))), POOLS.is_tick(((0, 0, 0), (0, 2, 0))), POOLS.taken((1, -1, 1)), POOLS.taken((3, 0, 0))]
[True, True, False, 0, None]
>>> [POOLS.filled((2, 1)).rest_or_loop()[0], POOLS.filled((2, 1)).stored(), POOLS.run(9)[-1] in ((2, 1), (1, 2)), POOLS.is_run(9, ((3, 0), (1, 2)))]
['rest', 1, True, True]
>>> Tanks(Net(2, ((0, 1, BATTERY),)), ((1, SLOPE, 1),))
raises InvalidOperation
>>> SEEN = ((0, 0), (4, 2), (4, 5))
>>> [is_agreement(SEEN, ("rise", ("flat", ((4, 0), (4, 5))))), is_agreement(SEEN, ("crossed", 0, 1)), agreement(((0, 0), (3, -1), (5, 5)))]
[True, False, ('crossed', 0, 1)]
>>> [tensions_told(SEEN, 2), tensions_told(SEEN, 4), currents_told(SEEN, 3), currents_told(SEEN, -1), tensions_told(SEEN, 9)]
[(0, 2), (0, None), (4, 4), (None, 0), (5, None)]
>>> [place_told(SEEN, 4, 4), place_told(SEEN, 4, 1), place_told(SEEN, 3, 3), avoiding(SEEN, 4, 4), is_avoiding(SEEN, 4, 1, ("steep", ((0, 2), (4, 2), (4, 5))))]
['sure', 'possible', 'barred', None, True]
>>> LOOSE = Net(2, ((0, 1, ("level", 9)), (1, 0, ("steep", ((0, -3), (8, -3))))))
>>> [can_hide(LOOSE, 0, SEEN, 3, 3), can_hide(LOOSE, 0, SEEN, 4, 3), hidden_currents(LOOSE, 0, SEEN), hidden_currents(LOOSE, 1, SEEN)]
[False, True, (4, 4), (None, 0)]
>>> [rise_text(STEPS), read_rise("plumb -3"), net_text(ROW), answer_text(ROW, ("state", (0, 0), (0, 0, 0)))]
['steep 0,0 2,0 2,3 4,3', ('plumb', -3), 'net 3\n0 1 steep -2,0 2,0\n1 2 steep 0,0', 'currents 0 0\nheights 0 0 0']
>>> read_rise("steep 0,0 2,1")
raises ParseError(2)
>>> bench = Bench()
>>> bench.put("lamp", LAMP)
>>> [bench.answer("lamp")[0], bench.last("lamp") == bench.answer("lamp"), str(bench), "lamp" in bench, "none" in bench]
['state', True, 'bench of 1 nets, 1 steps', True, False]
>>> bench.turn_to("lamp", 0, ("plumb", 1))
>>> [bench.last("lamp"), bench.answer("lamp")[0], bench.net_of("lamp").wires[0]]
[None, 'state', (0, 1, ('plumb', 1))]
>>> bench.undo()
>>> [bench.net_of("lamp") == LAMP, bench.last("lamp")[0], len(bench), bench.names]
[True, 'state', 1, ('lamp',)]
>>> bench.net_of("fuse")
raises UnknownName('fuse')
>>> [takes(("state", LAMP), ((0, 0, 0), (0, -5, -1))), takes(("reaches", PAIR, 0, 1, 2), ((2, 1, 3), (0, 0))), takes(("short", PAIR, 0, 1, 3), ("current", 2, ((2, 1, 3), (0, 0)), ()))]
[True, True, True]
>>> [opposite(("short", PAIR, 0, 1, 3)) == ("reaches", PAIR, 0, 1, 3), takes(("plane", LAMP), CIRCLE), answered(("plane", FULL))[0][0], takes(("cross", ((0, 0), (1, -1))), (0, 1)), answered(("lower", PAIR, 0, 1, 0))[0][0]]
[True, True, 'barred', True, 'higher']
"""


def rows_with_answers():
    """The pairs of each row to run and its answer, None where nothing is told."""
    found = []
    for row in EXAMPLES.strip().split("\n"):
        if row.startswith(">>> "):
            found.append([row[4:], None])
        else:
            found[-1][1] = row
    return found


class ExampleTests(unittest.TestCase):
    def setUp(self):
        self.names = {}
        for module in (errors, ranges, rises, joins, energies, nets, sums, painting, currents, heights, states, box, seen,
                       boxes, net_energies, one, feeds, recipes, faces, tanks, readings, texts, bench, claims):
            self.names.update({name: value for name, value in vars(module).items() if not name.startswith("_")})

    def test_examples(self):
        told = 0
        for row, answer in rows_with_answers():
            with self.subTest(row=row):
                if answer is None:
                    exec(row, self.names)
                elif answer.startswith("raises "):
                    self.check_error(row, answer[len("raises "):])
                else:
                    self.assertEqual(repr(eval(row, self.names)), answer)
                told += 1
        self.assertEqual(told, 116)

    def check_error(self, row, wanted):
        error = getattr(errors, wanted.partition("(")[0])
        with self.assertRaises(error) as caught:
            eval(row, self.names)
        if "(" in wanted:
            self.assertEqual(repr(vars(caught.exception)), repr(vars(eval(wanted, vars(errors)))))


if __name__ == "__main__":
    unittest.main()
