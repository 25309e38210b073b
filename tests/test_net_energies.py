"""Stage 13: energies of nets, and bounds that meet."""

import itertools
import unittest

from helpers import (
    BATTERY, DIODE, FUSE, JUNK, LONG, NETS, SIXTY, STAIRS, all_cuts, all_fights, all_loops, assert_judges, assert_raises,
    assert_refusals, digits, dressed_nets, fighting_cuts, fighting_loops, great_net, is_inside, rests, spread, windows)
from risenets.errors import InvalidCurrents, InvalidHeights, Refused
from risenets.net.nets import Net, drops, surplus
from risenets.rise.energies import anchor_of, area_beside, area_under, gap_of
from risenets.rise.rises import currents_of, tensions_of
from risenets.state.energies import (
    best_or_knots, best_or_loop, energy_of, floor_of, gaps_of, is_best_or_knots, is_best_or_loop, is_least_energy, least_energy)
from risenets.state.states import state_or_fight
from test_nets import BAD_NET, no_rows
from test_states import LAMP, TORN

TORCH, JAM = Net(2, ((0, 1, BATTERY), (1, 0, FUSE))), Net(2, ((0, 1, BATTERY), (0, 1, DIODE)))
TWIN = Net(2, ((0, 1, STAIRS), (0, 1, ("plumb", -2))))
SMALL = dressed_nets(NETS, 10)
TINY = [net for net in SMALL if len(net) <= 3 and net.knots <= 3]


def energy(net, currents):
    """The sum of the areas under the rises, None if one is missing."""
    areas = [area_under(rise, x) for (_, _, rise), x in zip(net.wires, currents)]
    return None if None in areas else sum(areas)


def floor(net, heights):
    """The opposite of the sum of the areas beside the rises and of the products of the anchors."""
    total = 0
    for (_, _, rise), tension in zip(net.wires, drops(net, heights)):
        area, (x, y) = area_beside(rise, tension), anchor_of(rise)
        if area is None:
            return None
        total += area + x * y
    return -total


def right_currents(net, most):
    """All right currents of a window."""
    return [row for row in windows(len(net), most) if not any(surplus(net, row)) and energy(net, row) is not None]


def right_heights(net, most):
    """All right heights of a window."""
    return [row for row in windows(net.knots, most) if floor(net, row) is not None]


def led_round(net, currents, steps):
    """The currents with one more by each step."""
    turns = dict(steps)
    return tuple(x + turns.get(k, 0) for k, x in enumerate(currents))


def raised(heights, knots):
    """The heights with these knots higher by 1."""
    return tuple(height + (k in knots) for k, height in enumerate(heights))


class SumTests(unittest.TestCase):
    def test_energy_floor_and_gaps(self):
        missing = 0
        for at, net in enumerate(SMALL):
            for salt in range(5):
                currents, heights = spread(len(net), 3, at + 31 * salt), spread(net.knots, 3, at + 17 * salt)
                self.assertEqual(energy_of(net, currents), energy(net, currents))
                self.assertEqual(floor_of(net, heights), floor(net, heights))
                gaps = tuple(gap_of(rise, x, y) for (_, _, rise), x, y in zip(net.wires, currents, drops(net, heights)))
                self.assertEqual(gaps_of(net, currents, heights), gaps)
                missing += None in gaps
        self.assertGreater(missing, 50)

    def test_no_wires(self):
        net = Net(2, ())
        self.assertEqual((energy_of(net, ()), floor_of(net, (5, SIXTY)), gaps_of(net, (), (1, 2))), (0, 0, ()))
        self.assertEqual(least_energy(net)[:2], ("least", 0))
        self.assertEqual(best_or_loop(net, ())[0], "best")
        self.assertEqual(best_or_knots(net, (3, 4)), ("best", ()))

    def test_energy_needs_no_currents_that_add_up(self):
        self.assertEqual(energy_of(TORCH, (3, -2)), 15)
        self.assertIsNone(energy_of(TORCH, (3, 3)))
        self.assertEqual(energy_of(Net(2, ((0, 1, BATTERY),)), (SIXTY,)), 5 * SIXTY)
        self.assertEqual(floor_of(Net(2, ((0, 1, ("plumb", 4)),)), (SIXTY, -SIXTY)), -8 * SIXTY)

    def test_they_bound_one_another(self):
        for net in TINY:
            for currents, heights in itertools.product(right_currents(net, 3)[::2], right_heights(net, 3)[::5]):
                gap = energy_of(net, currents) - floor_of(net, heights)
                self.assertEqual(gap, sum(gaps_of(net, currents, heights)))
                self.assertGreaterEqual(gap, 0)
                self.assertEqual(gap == 0, rests(net, (currents, heights)))


class LeastTests(unittest.TestCase):
    def is_right(self, net, value):
        """Whether the value is right, by the words of [13.3]."""
        if value[0] == "cut":
            return value[1] in fighting_cuts(net)
        if value[0] == "least":
            return rests(net, value[2]) and energy(net, value[2][0]) == value[1]
        return not any(surplus(net, value[1])) and energy(net, value[1]) is not None and value[2] in fighting_loops(net)

    def test_either_or(self):
        words = []
        for net in SMALL:
            told = least_energy(net)
            self.assertTrue(self.is_right(net, told), (net.wires, told))
            self.assertIs(is_least_energy(net, told), True)
            self.assertEqual(told[0] == "cut", bool(fighting_cuts(net)))
            words.append(told[0])
            if told[0] == "falls":
                _, currents, steps = told
                by = energy(net, currents)
                for _ in range(4):
                    currents = led_round(net, currents, [(wire, -way) for wire, way in steps])
                    lower = energy(net, currents)
                    self.assertLess(lower, by)
                    by = lower
        for word in ("least", "cut", "falls"):
            self.assertGreater(words.count(word), 10)

    def test_least_by_trying_all(self):
        for net in TINY:
            told = least_energy(net)
            rows = right_currents(net, 8)
            if told[0] == "least" and all(abs(x) <= 8 for x in told[2][0]):
                self.assertEqual(told[1], min(energy(net, row) for row in rows))
            if told[0] == "cut":
                self.assertEqual(rows, [])

    def test_a_cut_and_a_loop_at_once(self):
        self.assertEqual((bool(fighting_cuts(TORN)), bool(fighting_loops(TORN))), (True, True))
        self.assertEqual(least_energy(TORN)[0], "cut")
        for loop in fighting_loops(TORN):
            self.assertIs(is_least_energy(TORN, ("falls", (0, 0, 3, 3), loop)), False)
            self.assertIs(is_least_energy(TORN, ("loop", loop)), False)

    def test_judge(self):
        right = [("falls", (-3, 3), ((0, 1), (1, -1))), ("falls", (0, 0), ((1, -1), (0, 1))), ("falls", (-10 ** 99, 10 ** 99), ((0, 1), (1, -1)))]
        wrong = [("falls", (3, -3), ((0, 1), (1, -1))), ("falls", (-3, 2), ((0, 1), (1, -1))), ("falls", (-3, 3), ((0, -1), (1, 1))),
                 ("falls", (-3, 3), ((0, True), (1, -1))), ("falls", (False, 0), ((0, 1), (1, -1))), ("falls", [-3, 3], ((0, 1), (1, -1))),
                 ("falls", (-3, 3)), ("falls", (-3, 3), ()), ("Falls", (-3, 3), ((0, 1), (1, -1))), ["falls", (-3, 3), ((0, 1), (1, -1))],
                 ("falls", (-3, 3), ((0, 1), (1, -1)), 0), ("cut", (0,)), ("least", 0, ((0, 0), (0, 0))), ("loop", ((0, 1), (1, -1)))]
        assert_judges(self, is_least_energy, (JAM,), right, wrong)
        right = [("least", -10, ((-2, -2), (n + 5, n))) for n in (0, -5, 10 ** 99)]
        wrong = [("least", -9, ((-2, -2), (5, 0))), ("least", -10, ((-2, -2), (4, 0))), ("least", -10, ((-2, -2), (5, False))),
                 ("least", -10, [(-2, -2), (5, 0)]), ("least", -5, ((-1, -1), (5, 0))), ("least", None, ((-2, -2), (5, 0))),
                 ("Least", -10, ((-2, -2), (5, 0))), ("least", -10), ("least", -10, (-2, -2), (5, 0)), ("falls", (-2, -2), ((0, 1), (1, 1))),
                 ("least", 10 ** 99, ((-2, -2), (5, 0))), ("cut", (0,)), ("cut", ()), ("least", -10, None), ("state", (-2, -2), (5, 0))]
        assert_judges(self, is_least_energy, (TORCH,), right, wrong)
        one = Net(2, ((0, 1, ("level", 1)), (1, 0, ("plumb", 1))))
        assert_judges(self, is_least_energy, (one,), [("least", 1, ((1, 1), (1, 0)))], [("least", True, ((1, 1), (1, 0)))])
        cut = Net(2, ((0, 1, ("plumb", 3)),))
        assert_judges(self, is_least_energy, (cut,), [("cut", (0,))],
                      [("cut", (1,)), ("cut", (0, 1)), ("cut", (False,)), ("cut", [0]), ("cut", (0,), 0), ("Cut", (0,)), ("cut", ())])


class CurrentsTests(unittest.TestCase):
    def is_right(self, net, currents, value):
        """Whether the value is right, by the words of [13.4]."""
        if value[0] == "best":
            return rests(net, (currents, value[1]))
        _, steps, less = value
        if less < 1 or steps not in all_loops(net):
            return False
        more = energy(net, led_round(net, currents, steps))
        return more is not None and more == energy(net, currents) - less

    def test_no_dip_but_the_deepest(self):
        words = []
        for net in SMALL:
            state = state_or_fight(net)
            for currents in (right_currents(net, 3) if len(net) <= 4 else [])[::3]:
                told = best_or_loop(net, currents)
                self.assertTrue(self.is_right(net, currents, told), (net.wires, currents, told))
                self.assertIs(is_best_or_loop(net, currents, told), True)
                least = state[0] == "state" and energy(net, state[1]) == energy(net, currents)
                self.assertEqual(told[0], "best" if least else "loop")
                words.append(told[0])
        self.assertGreater(min(words.count("best"), words.count("loop")), 50)

    def test_judge_takes_every_right_value(self):
        for net in TINY:
            for currents in right_currents(net, 2)[::2]:
                values = [("loop", loop, less) for loop in all_loops(net) for less in range(-1, 8)]
                values += [("best", heights) for heights in windows(net.knots, 2)]
                for value in values:
                    self.assertIs(is_best_or_loop(net, currents, value), self.is_right(net, currents, value))

    def test_judge(self):
        right = [("loop", ((1, -1), (0, -1)), 5), ("loop", ((0, -1), (1, -1)), 5)]
        wrong = [("loop", ((0, 1), (1, 1)), 5), ("loop", ((1, -1), (0, -1)), 4), ("loop", ((1, -1), (0, -1)), -5), ("loop", (), 5),
                 ("loop", ((1, -1), (0, -1)), None), ("loop", ((1, -1), (0, -1))), ("loop", ((1, -1), (0, -1)), 5, 0), ("loop", ((0, -1),), 5),
                 ("Loop", ((1, -1), (0, -1)), 5), ["loop", ((1, -1), (0, -1)), 5], ("loop", [(1, -1), (0, -1)], 5), ("best", (5, 0)),
                 ("loop", ((True, -1), (0, -1)), 5), ("loop", ((1, -1), (0, -1)), 10 ** 99), ("best",), ("best", (0, 0))]
        assert_judges(self, is_best_or_loop, (TORCH, (1, 1)), right, wrong)
        right = [("best", (n + 5, n)) for n in (0, -9, 10 ** 99)]
        wrong = [("best", (0, 5)), ("best", [5, 0]), ("best", (5, False)), ("best", (5, 0), 0), ("best", (5,)), ("Best", (5, 0)), ["best", (5, 0)],
                 ("loop", ((1, -1), (0, -1)), 5), ("best", None), ("heights", (5, 0))]
        assert_judges(self, is_best_or_loop, (TORCH, (-2, -2)), right, wrong)
        one = Net(2, ((0, 1, ("level", 1)), (1, 0, ("level", 0))))
        assert_judges(self, is_best_or_loop, (one, (4, 4)), [("loop", ((0, -1), (1, -1)), 1)], [("loop", ((0, -1), (1, -1)), True)])

    def test_long(self):
        net = Net(2, ((0, 1, BATTERY), (1, 0, ("level", -3))))
        self.assertIn(best_or_loop(net, (SIXTY, SIXTY)), [("loop", ((0, -1), (1, -1)), 2), ("loop", ((1, -1), (0, -1)), 2)])
        net = Net(2, ((0, 1, BATTERY), (1, 0, ("level", -5))))
        self.assertEqual(drops(net, best_or_loop(net, (-SIXTY, -SIXTY))[1]), (5, -5))


class HeightsTests(unittest.TestCase):
    def is_right(self, net, heights, value):
        """Whether the value is right, by the words of [13.5]."""
        if value[0] == "best":
            return rests(net, (value[1], heights))
        _, knots, more = value
        if more < 1:
            return False
        higher = floor(net, raised(heights, knots))
        return higher is not None and higher == floor(net, heights) + more

    def test_no_top_but_the_highest(self):
        words = []
        for net in SMALL:
            state = state_or_fight(net)
            for heights in (right_heights(net, 3) if net.knots <= 3 else right_heights(net, 1) if net.knots == 4 else []):
                told = best_or_knots(net, heights)
                self.assertTrue(self.is_right(net, heights, told), (net.wires, heights, told))
                self.assertIs(is_best_or_knots(net, heights, told), True)
                most = state[0] == "state" and floor(net, state[2]) == floor(net, heights)
                self.assertEqual(told[0], "best" if most else "knots")
                words.append(told[0])
        self.assertGreater(min(words.count("best"), words.count("knots")), 50)

    def test_judge_takes_every_right_value(self):
        for net in TINY:
            for heights in right_heights(net, 2)[::7]:
                values = [("knots", cut, more) for cut in all_cuts(net) for more in range(-1, 6)]
                values += [("best", currents) for currents in windows(len(net), 2)]
                for value in values:
                    self.assertIs(is_best_or_knots(net, heights, value), self.is_right(net, heights, value))

    def test_judge(self):
        right = [("knots", (0,), 2)]
        wrong = [("knots", (1,), 2), ("knots", (0,), 1), ("knots", (0, 1), 2), ("knots", (), 2), ("knots", [0], 2), ("knots", (False,), 2),
                 ("knots", (0,), None), ("knots", (0,)), ("knots", (0,), 2, 0), ("Knots", (0,), 2), ["knots", (0,), 2], ("knots", (1,), -2),
                 ("knots", (0,), 10 ** 99), ("best", (2, -2)), ("best",), ("cut", (0,), 2), ("knots", (0, 1), 0)]
        assert_judges(self, is_best_or_knots, (TWIN, (0, 0)), right, wrong)
        wrong = [("best", (-2, 2)), ("best", [2, -2]), ("best", (2, -2), 0), ("best", (2,)), ("Best", (2, -2)), ["best", (2, -2)], ("best", None),
                 ("knots", (0,), 2), ("best", (2, 10 ** 99)), ("best", (2, -2, 0))]
        assert_judges(self, is_best_or_knots, (TWIN, (3, 0)), [("best", (2, -2))], wrong)
        loose = Net(2, ((0, 1, BATTERY), (0, 1, BATTERY)))
        right = [("best", (n, -n)) for n in (0, 2, 10 ** 99)]
        assert_judges(self, is_best_or_knots, (loose, (5, 0)), right, [("best", (False, 0)), ("best", (1, 1))])
        one = Net(2, ((0, 1, ("plumb", -1)),))
        assert_judges(self, is_best_or_knots, (one, (0, 7)), [("knots", (0,), 1)], [("knots", (0,), True), ("knots", (1,), 1)])


class GreatTests(unittest.TestCase):
    def test_great_nets(self):
        shown = 0
        for salt, firsts in itertools.product(range(4), (("flat", "steep"), ("steep",))):
            net = great_net(firsts, salt)
            told = least_energy(net)
            self.assertIs(is_least_energy(net, told), True)
            self.assertLessEqual(digits(told), 60)
            if told[0] != "least":
                continue
            _, number, (currents, heights) = told
            self.assertEqual((energy_of(net, currents), floor_of(net, heights), sum(gaps_of(net, currents, heights))), (number, number, 0))
            self.assertEqual((best_or_loop(net, currents)[0], best_or_knots(net, heights)[0]), ("best", "best"))
            ring = led_round(net, currents, [(k, 1) for k in range(12)])
            if all(is_inside(currents_of(rise), x) for (_, _, rise), x in zip(net.wires, ring)):
                self.assertIs(is_best_or_loop(net, ring, best_or_loop(net, ring)), True)
            other = raised(heights, (0, 3))
            if all(is_inside(tensions_of(rise), y) for (_, _, rise), y in zip(net.wires, drops(net, other))):
                self.assertIs(is_best_or_knots(net, other, best_or_knots(net, other)), True)
            shown += 1
        self.assertGreater(shown, 2)


class RefusalTests(unittest.TestCase):
    def test_refusals(self):
        bad_currents = (no_rows(3), InvalidCurrents, None)
        bad_heights = (no_rows(3), InvalidHeights, None)
        zero, heights = (0, 0, 0), (0, -5, -1)
        assert_refusals(self, energy_of, [LAMP, zero], {0: BAD_NET, 1: bad_currents})
        assert_refusals(self, floor_of, [LAMP, heights], {0: BAD_NET, 1: bad_heights})
        assert_refusals(self, gaps_of, [LAMP, zero, heights], {0: BAD_NET, 1: bad_currents, 2: bad_heights})
        assert_refusals(self, least_energy, [LAMP], {0: BAD_NET})
        assert_refusals(self, is_least_energy, [LAMP, None], {0: BAD_NET})
        assert_refusals(self, best_or_loop, [LAMP, zero], {0: BAD_NET, 1: bad_currents})
        assert_refusals(self, is_best_or_loop, [LAMP, zero, None], {0: BAD_NET, 1: bad_currents})
        assert_refusals(self, best_or_knots, [LAMP, heights], {0: BAD_NET, 1: bad_heights})
        assert_refusals(self, is_best_or_knots, [LAMP, heights, None], {0: BAD_NET, 1: bad_heights})

    def test_right_arguments(self):
        net = Net(3, ((0, 1, BATTERY), (1, 2, DIODE), (2, 0, FUSE), (1, 2, ("level", 1))))
        for function, more in ((best_or_loop, ()), (is_best_or_loop, (None,))):
            assert_raises(self, Refused, ("reason", ("surplus", 1)), function, net, (0, -1, 0, 0), *more)
            assert_raises(self, Refused, ("reason", ("surplus", 0)), function, net, (0, 0, 9, 9), *more)
            assert_raises(self, Refused, ("reason", ("wire", 1)), function, net, (3, -1, 3, 4), *more)
            assert_raises(self, Refused, ("reason", ("wire", 2)), function, net, (3, 1, 3, 2), *more)
        for function, more in ((best_or_knots, ()), (is_best_or_knots, (None,))):
            assert_raises(self, Refused, ("reason", ("wire", 0)), function, net, (4, 0, -5), *more)
            assert_raises(self, Refused, ("reason", ("wire", 1)), function, net, (5, 0, -1), *more)
            assert_raises(self, Refused, ("reason", ("wire", 3)), function, net, (5, 0, 0), *more)
        self.assertEqual(all_fights(net), [("loop", loop) for loop in fighting_loops(net)])
        assert_judges(self, is_least_energy, (net,), [("falls", (0, 0, 0, 0), loop) for loop in fighting_loops(net)], JUNK + [LONG])


if __name__ == "__main__":
    unittest.main()
