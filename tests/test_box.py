"""Stage 10: all states."""

import itertools
import unittest

from helpers import (
    BATTERY, DIODE, FUSE, NETS, NO_INTEGERS, SIXTY, STAIRS, all_cuts, all_fights, all_loops, all_ways, assert_judges,
    assert_raises, assert_refusals, digits, dressed_nets, great_net, is_inside, rests, windows)
from risenets.errors import InvalidNumber, InvalidOperation, InvalidState, Refused
from risenets.net.nets import Net, cut_wires, drops, surplus
from risenets.rise.rises import currents_at, tensions_at
from risenets.state.box import (
    furthest_current, furthest_height, is_furthest_current, is_furthest_height, is_only, least_heights, mixed,
    most_heights, ranges)
from risenets.state.states import is_state, state_or_fight
from test_nets import BAD_NET
from test_states import LAMP, TORN

PAIR = Net(2, ((0, 1, FUSE), (0, 1, FUSE), (1, 0, ("plumb", 3))))
FREE = Net(2, ((0, 1, BATTERY), (0, 1, BATTERY)))
SMALL = [(net, state_or_fight(net)) for net in dressed_nets(NETS, 16)]
RESTING = [(net, told[1:]) for net, told in SMALL if told[0] == "state"]
FIGHTING = [net for net, told in SMALL if told[0] != "state"] + [TORN]
TINY = [(net, state) for net, state in RESTING if len(net) <= 3 and net.knots <= 3]


def states_near(net, most_current, most_height):
    """All states with the height 0 at the knot 0 and no great integers."""
    rows = [row for row in windows(len(net), most_current) if not any(surplus(net, row))]
    heights = [row for row in windows(net.knots, most_height) if row[0] == 0]
    return [value for value in itertools.product(rows, heights) if rests(net, value)]


NEAR_STATES = [(net, state, states) for net, state in TINY if (states := states_near(net, 6, 4))]


def does_hold(net, wire, way, state, cut):
    """Whether a cut shows that the current goes no further that way, by the words of [10.3]."""
    leaving, entering = cut_wires(net, cut)
    if wire not in leaving:
        return False
    told = ranges(net, state)
    far, near = (1, 0) if way == 1 else (0, 1)
    return (all(told[k][near] == state[0][k] for k in leaving if k != wire)
            and all(told[k][far] == state[0][k] for k in entering))


def is_right_current(net, wire, way, value):
    """Whether the value tells the furthest current, by the words of [10.3]."""
    if value[0] == "endless":
        _, state, steps = value
        told = ranges(net, state)
        return steps[0] == (wire, way) and all(told[k][1 if turn == 1 else 0] is None for k, turn in steps)
    _, number, state, cut = value
    if state[0][wire] != number:
        return False
    if cut == ():
        return ranges(net, state)[wire][1 if way == 1 else 0] == number
    return does_hold(net, wire, way, state, cut)


def is_right_height(net, knot, other, value):
    """Whether the value tells the furthest height, by the words of [10.4]."""
    told = ranges(net, value[1 if value[0] == "endless" else 2])
    if value[0] == "endless":
        cut = value[2]
        leaving, entering = cut_wires(net, cut)
        return (knot in cut and other not in cut and all(told[k][3] is None for k in leaving)
                and all(told[k][2] is None for k in entering))
    _, number, state, steps = value
    tensions = drops(net, state[1])
    return (state[1][knot] - state[1][other] == number and steps in all_ways(net, knot, other)
            and all(tensions[k] == told[k][3 if way == 1 else 2] for k, way in steps))


class MixingTests(unittest.TestCase):
    def test_mixed(self):
        for net, _, states in NEAR_STATES:
            for one, other in itertools.product(states[::5], states[::7]):
                self.assertEqual(mixed(net, one, other), (one[0], other[1]))
                self.assertTrue(rests(net, (one[0], other[1])))
        self.assertEqual(mixed(PAIR, ((2, 1, 3), (0, 0)), ((1, 2, 3), (10 ** 99, 10 ** 99))), ((2, 1, 3), (10 ** 99,) * 2))

    def test_ranges(self):
        self.assertEqual(ranges(PAIR, ((2, 1, 3), (0, 0))), ((-2, 2, 0, None), (-2, 2, 0, 0), (3, 3, None, None)))
        self.assertEqual(ranges(Net(1, ()), ((), (5,))), ())
        for net, state in RESTING:
            tensions = drops(net, state[1])
            wanted = [currents_at(rise, tensions[k]) + tensions_at(rise, state[0][k])
                      for k, (_, _, rise) in enumerate(net.wires)]
            self.assertEqual(ranges(net, state), tuple(wanted))

    def test_ranges_of_long_integers(self):
        far = 10 ** 99
        self.assertEqual(ranges(FREE, ((far, -far), (5 + far, far))), ((None, None, 5, 5),) * 2)

    def test_all_states_are_a_box(self):
        for net, state, states in NEAR_STATES:
            for told in [state] + states[::9]:
                spans = ranges(net, told)
                for row in windows(len(net), 4):
                    right = not any(surplus(net, row)) and all(is_inside(span[:2], x) for span, x in zip(spans, row))
                    self.assertEqual(right, rests(net, (row, told[1])))
                for heights in windows(net.knots, 3):
                    right = all(is_inside(span[2:], y) for span, y in zip(spans, drops(net, heights)))
                    self.assertEqual(right, rests(net, (told[0], heights)))


class CurrentTests(unittest.TestCase):
    def test_furthest(self):
        words = []
        for net, _ in RESTING:
            for wire, way in itertools.product(range(len(net)), (1, -1)):
                told = furthest_current(net, wire, way)
                state = told[1 if told[0] == "endless" else 2]
                self.assertTrue(rests(net, state))
                if told[0] == "endless":
                    self.assertIn(told[2], all_loops(net))
                elif told[3] != ():
                    self.assertIn(told[3], all_cuts(net))
                self.assertTrue(is_right_current(net, wire, way, told), (net.wires, wire, way, told))
                self.assertIs(is_furthest_current(net, wire, way, told), True)
                words.append(told[0] if told[-1] != () else "own")
        for word in ("current", "endless", "own"):
            self.assertGreater(words.count(word), 10)

    def test_by_trying_all(self):
        for net, _, states in NEAR_STATES:
            for wire, way in itertools.product(range(len(net)), (1, -1)):
                far = max(way * state[0][wire] for state in states)
                told = furthest_current(net, wire, way)
                if told[0] == "current":
                    self.assertEqual(way * told[1], far)
                else:
                    # What has no end is held by the window alone.
                    self.assertGreater(far, 1)

    def test_judge_takes_every_right_paper(self):
        for net, _, states in NEAR_STATES[::2]:
            for wire, way in itertools.product(range(len(net)), (1, -1)):
                for state in states[::max(1, len(states) // 9)]:
                    values = [("current", state[0][wire] + more, state, cut) for cut in [()] + all_cuts(net) for more in (0, 1)]
                    values += [("endless", state, loop) for loop in all_loops(net)]
                    for value in values:
                        self.assertIs(is_furthest_current(net, wire, way, value), is_right_current(net, wire, way, value))

    def test_judge(self):
        right = [("current", 2, ((2, 1, 3), (h, h)), cut) for h in (0, 10 ** 99) for cut in ((),)]
        wrong = [("current", 2, ((2, 1, 3), (0, 1)), ()), ("current", 1, ((1, 2, 3), (0, 0)), ()), ("current", 2),
                 ("current", 3, ((3, 0, 3), (0, 0)), ()), ("current", 2, ((2, 1, 3), (0, 0)), (0,)),
                 ("current", 2, ((2, 1, 3), (0, 0)), [0]), ("current", 2, ((2, 1, 3), (0, 0)), (0, 1)),
                 ("current", 2, ((2, True, 3), (0, 0)), ()), ("current", 2, ((2, 1, 3), (0, 0))), ("current", 2, (2, 1, 3), ()),
                 ("Current", 2, ((2, 1, 3), (0, 0)), ()), ["current", 2, ((2, 1, 3), (0, 0)), ()], ("current", 2, None, ()),
                 ("current", 2, ((2, 1, 3), (0, 0)), None), ("current", 2, ((2, 1, 3), (0, 0)), (), 0),
                 ("endless", ((2, 1, 3), (0, 0)), ((0, 1), (2, 1))), ("current", None, ((2, 1, 3), (0, 0)), ())]
        assert_judges(self, is_furthest_current, (PAIR, 0, 1), right, wrong)
        right = [("current", 1, ((1, 2, 3), (0, 0)), (0,))]
        wrong = [("current", True, ((1, 2, 3), (0, 0)), (0,)), ("current", 1, ((1, 2, 3), (0, 0)), (False,)),
                 ("current", 1, ((1, 2, 3), (0, 0)), (1,)), ("current", 1, ((1, 2, 3), (0, 0)), ()),
                 ("current", 2, ((2, 1, 3), (0, 0)), (0,)), ("current", 1, ((True, 2, 3), (0, 0)), (0,))]
        assert_judges(self, is_furthest_current, (PAIR, 0, -1), right, wrong)

    def test_judge_of_endless_ones(self):
        right = [("endless", ((n, -n), (5, 0)), ((0, 1), (1, -1))) for n in (0, -3, 10 ** 99)]
        wrong = [("endless", ((0, 0), (5, 0)), ((1, -1), (0, 1))), ("endless", ((0, 0), (5, 0)), ((0, -1), (1, 1))),
                 ("endless", ((0, 0), (4, 0)), ((0, 1), (1, -1))), ("endless", ((0, 0), (5, 0)), ((0, True), (1, -1))),
                 ("endless", ((0, 0), (5, 0)), ((0, 1),)), ("endless", ((0, 0), (5, 0)), ()), ("endless", ((0, 0), (5, 0))),
                 ("endless", ((0, False), (5, 0)), ((0, 1), (1, -1))), ("endless", ((0, 0), (5, 0)), [(0, 1), (1, -1)]),
                 ("Endless", ((0, 0), (5, 0)), ((0, 1), (1, -1))), ("current", 0, ((0, 0), (5, 0)), ()),
                 ("current", 0, ((0, 0), (5, 0)), (0,)), ("endless", None, ((0, 1), (1, -1)))]
        assert_judges(self, is_furthest_current, (FREE, 0, 1), right, wrong)
        assert_judges(self, is_furthest_current, (FREE, 1, -1), [("endless", ((0, 0), (5, 0)), ((1, -1), (0, 1)))],
                      [("endless", ((0, 0), (5, 0)), ((0, 1), (1, -1)))])


class HeightTests(unittest.TestCase):
    def test_furthest(self):
        words = []
        for net, _ in RESTING:
            for knot, other in itertools.permutations(range(min(net.knots, 4)), 2):
                told = furthest_height(net, knot, other)
                self.assertTrue(rests(net, told[1 if told[0] == "endless" else 2]))
                if told[0] == "endless":
                    self.assertIn(told[2], all_cuts(net))
                self.assertTrue(is_right_height(net, knot, other, told), (net.wires, knot, other, told))
                self.assertIs(is_furthest_height(net, knot, other, told), True)
                words.append(told[0])
        self.assertGreater(min(words.count("height"), words.count("endless")), 50)

    def test_by_trying_all(self):
        for net, _, states in NEAR_STATES:
            for knot, other in itertools.permutations(range(net.knots), 2):
                far = max(heights[knot] - heights[other] for _, heights in states_near(net, 3, 8)) if len(net) < 3 else None
                told = furthest_height(net, knot, other)
                if far is not None:
                    self.assertEqual(told[1] if told[0] == "height" else None, far if far < 5 else None)

    def test_judge_takes_every_right_paper(self):
        for net, _, states in NEAR_STATES[::2]:
            for knot, other in itertools.permutations(range(net.knots), 2):
                for state in states[::max(1, len(states) // 9)]:
                    number = state[1][knot] - state[1][other]
                    values = [("height", number + more, state, way) for way in all_ways(net, knot, other) for more in (0, -1)]
                    values += [("height", number, state, way) for way in all_ways(net, other, knot)]
                    values += [("endless", state, cut) for cut in all_cuts(net)]
                    for value in values:
                        self.assertIs(is_furthest_height(net, knot, other, value), is_right_height(net, knot, other, value))

    def test_judge(self):
        state = ((0, 0), (1, 0))
        net = Net(2, ((0, 1, ("flat", ((0, -1), (0, 1)))), (1, 0, ("flat", ((0, -1), (0, 1))))))
        self.assertTrue(rests(net, state))
        right = [("height", 1, state, ((0, 1),)), ("height", 1, state, ((1, -1),)),
                 ("height", 1, ((0, 0), (10 ** 99 + 1, 10 ** 99)), ((0, 1),))]
        wrong = [("height", True, state, ((0, 1),)), ("height", 1, state, ((0, True),)), ("height", 1, state, ((1, 1),)),
                 ("height", 1, state, ()), ("height", 1, state, [(0, 1)]), ("height", 0, ((0, 0), (0, 0)), ((0, 1),)),
                 ("height", 1, ((0, 0), (True, 0)), ((0, 1),)), ("height", 1, ((False, 0), (1, 0)), ((0, 1),)),
                 ("height", 1, state), ("height", 1, state, ((0, 1),), 0), ["height", 1, state, ((0, 1),)], ("endless", state, (0,)),
                 ("Height", 1, state, ((0, 1),)), ("height", 1, state, ((0, 1), (1, 1), (0, 1))), ("height", 2, state, ((0, 1),)),
                 ("height", 1, (0, 0), ((0, 1),)), ("height", None, state, ((0, 1),)), ("height", 1, state, ((0, -1),))]
        assert_judges(self, is_furthest_height, (net, 0, 1), right, wrong)
        net, state = Net(3, ((0, 1, FUSE), (1, 2, DIODE))), ((0, 0), (0, 0, 0))
        right = [("endless", state, (2,)), ("endless", ((0, 0), (10 ** 99, 10 ** 99, 10 ** 99 + 7)), (2,))]
        wrong = [("endless", state, cut) for cut in ((0,), (1,), (1, 2), (0, 2), (0, 1), [2], (0, 1, 2), (), (True, 2), None, (2, 2))]
        wrong += [("endless", state, (2,), 0), ("Endless", state, (2,)), ["endless", state, (2,)], ("endless", state)]
        wrong += [("endless", ((0, 0), (0, 1, 0)), (2,)), ("endless", ((0, False), (0, 0, 0)), (2,)), ("endless", None, (2,))]
        assert_judges(self, is_furthest_height, (net, 2, 1), right, wrong)
        self.assertEqual(furthest_height(net, 1, 2)[:2], ("height", 0))

    def test_rows(self):
        told_rows = 0
        for net, state in RESTING:
            for ground in range(min(net.knots, 3)):
                found = [furthest_height(net, knot, ground) for knot in range(net.knots) if knot != ground]
                low = [furthest_height(net, ground, knot) for knot in range(net.knots) if knot != ground]
                for ends, sign, told in ((found, 1, most_heights(net, ground)), (low, -1, least_heights(net, ground))):
                    if any(end[0] == "endless" for end in ends):
                        self.assertIsNone(told)
                        continue
                    wanted = [sign * end[1] for end in ends]
                    self.assertEqual(told, tuple(wanted[:ground] + [0] + wanted[ground:]))
                    self.assertIs(is_state(net, (state[0], told)), True)
                    told_rows += 1
        self.assertGreater(told_rows, 50)

    def test_one_knot_and_loose_ones(self):
        self.assertEqual((least_heights(Net(1, ()), 0), most_heights(Net(1, ()), 0)), ((0,), (0,)))
        self.assertEqual((least_heights(Net(2, ()), 0), most_heights(Net(2, ()), 1)), (None, None))
        self.assertEqual(furthest_height(Net(2, ()), 0, 1)[::2], ("endless", (0,)))


class OnlyTests(unittest.TestCase):
    def test_only(self):
        told = []
        for net, state in RESTING:
            only = is_only(net)
            for wire in range(len(net)):
                ends = [furthest_current(net, wire, way)[:2] for way in (1, -1)]
                tail, head, _ = net.wires[wire]
                up, down = furthest_height(net, tail, head)[:2], furthest_height(net, head, tail)[:2]
                if ends[0] != ends[1] or ends[0][0] == "endless" or (up[0], down[0]) != ("height",) * 2 or up[1] != -down[1]:
                    self.assertFalse(only)
                    break
            else:
                self.assertTrue(only)
            told.append(only)
        self.assertGreater(min(told.count(True), told.count(False)), 10)

    def test_by_trying_all(self):
        for net, _, states in NEAR_STATES:
            rows = {row for row, _ in states}
            tensions = {drops(net, heights) for _, heights in states}
            self.assertFalse(is_only(net) and (len(rows) > 1 or len(tensions) > 1))

    def test_alike_heights_are_one(self):
        self.assertIs(is_only(Net(1, ())), True)
        self.assertIs(is_only(Net(3, ())), True)
        self.assertIs(is_only(Net(4, ((0, 1, BATTERY), (2, 3, BATTERY)))), True)
        self.assertIs(is_only(PAIR), False)
        self.assertIs(is_only(Net(2, ((0, 1, ("plumb", 0)),))), False)


class GreatTests(unittest.TestCase):
    def test_great_nets(self):
        shown = 0
        for salt, firsts in itertools.product(range(4), (("flat", "steep"), ("steep",))):
            net = great_net(firsts, salt)
            if state_or_fight(net)[0] != "state":
                continue
            for wire, way in ((0, 1), (13, -1), (23, 1)):
                told = furthest_current(net, wire, way)
                self.assertIs(is_furthest_current(net, wire, way, told), True)
                self.assertLessEqual(digits(told), 60)
            for knot, other in ((0, 11), (7, 3)):
                told = furthest_height(net, knot, other)
                self.assertIs(is_furthest_height(net, knot, other, told), True)
                self.assertLessEqual(digits(told), 60)
            self.assertIn(is_only(net), (True, False))
            least_heights(net, 5), most_heights(net, 5)
            shown += 1
        self.assertGreater(shown, 2)


class RefusalTests(unittest.TestCase):
    def test_refusals(self):
        state = ((0, 0, 0), (0, -5, -1))
        no_states = NO_INTEGERS + [((0, 0, 0), (0, -5, 2)), ((0, 0, 0), (0, -5)), [(0, 0, 0), (0, -5, -1)], state + (0,),
                                   ((0, 0, False), (0, -5, -1)), ((1, 0, 0), (0, -5, -1)), ([0, 0, 0], (0, -5, -1)), 0]
        bad_state = (no_states, InvalidState, None)
        bad_index = (NO_INTEGERS + [-1, 3, 10], InvalidNumber, "given")
        bad_way = (NO_INTEGERS + [0, 2, -2, 10], InvalidNumber, "given")
        assert_refusals(self, mixed, [LAMP, state, state], {0: BAD_NET, 1: bad_state, 2: bad_state})
        assert_refusals(self, ranges, [LAMP, state], {0: BAD_NET, 1: bad_state})
        assert_refusals(self, furthest_current, [LAMP, 0, 1], {0: BAD_NET, 1: bad_index, 2: bad_way})
        assert_refusals(self, is_furthest_current, [LAMP, 0, 1, None], {0: BAD_NET, 1: bad_index, 2: bad_way})
        assert_refusals(self, furthest_height, [LAMP, 0, 1], {0: BAD_NET, 1: bad_index, 2: bad_index})
        assert_refusals(self, is_furthest_height, [LAMP, 0, 1, None], {0: BAD_NET, 1: bad_index, 2: bad_index})
        for function in (least_heights, most_heights):
            assert_refusals(self, function, [LAMP, 0], {0: BAD_NET, 1: bad_index})
        assert_refusals(self, is_only, [LAMP], {0: BAD_NET})

    def test_a_fight_is_refused(self):
        for net in FIGHTING:
            fights = all_fights(net)
            calls = [(is_only, net)] + [(function, net, 0) for function in (least_heights, most_heights)]
            if len(net):
                calls += [(furthest_current, net, 0, -1), (is_furthest_current, net, 0, 1, None)]
            if net.knots > 1:
                calls += [(furthest_height, net, 0, 1), (is_furthest_height, net, 1, 0, None)]
            for function, *arguments in calls:
                with self.assertRaises(Refused) as caught:
                    function(*arguments)
                self.assertIn(caught.exception.reason, fights)
            assert_raises(self, InvalidState, None, ranges, net, ((0,) * len(net), (0,) * net.knots))

    def test_what_comes_then_is_last(self):
        for function, more in ((furthest_height, ()), (is_furthest_height, (None,))):
            assert_raises(self, InvalidOperation, None, function, TORN, 1, 1, *more)
            assert_raises(self, InvalidNumber, ("given", 4), function, TORN, 1, 4, *more)
            assert_raises(self, InvalidOperation, None, function, LAMP, 2, 2, *more)
            assert_raises(self, InvalidNumber, ("given", True), function, LAMP, 1, True, *more)
        for function, more in ((furthest_current, ()), (is_furthest_current, (None,))):
            assert_raises(self, InvalidNumber, ("given", 4), function, TORN, 4, 1, *more)
            assert_raises(self, InvalidNumber, ("given", True), function, TORN, 3, True, *more)
        assert_raises(self, InvalidNumber, ("given", 4), least_heights, TORN, 4)
        assert_raises(self, InvalidState, None, mixed, LAMP, ((SIXTY,) * 3, (0, 0, 0)), None)
        self.assertEqual(ranges(Net(2, ((0, 1, STAIRS),)), ((0,), (10 ** 99, 10 ** 99))), ((0, 0, -1, 1),))


if __name__ == "__main__":
    unittest.main()
