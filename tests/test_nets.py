"""Stage 5: nets, their surplus, tensions, cuts and loops."""

import itertools
import unittest

from helpers import (
    BATTERY, DIODE, FUSE, JUNK, LONG, NETS, NO_NETS, NO_RISES, ODD, ODD_TUPLES, SIXTY, STAIRS, all_cuts, all_loops,
    assert_judges, assert_raises, assert_refusals, plain_net, spread, stair)
from risenets.errors import InvalidCurrents, InvalidHeights, InvalidNet, InvalidOperation
from risenets.net import nets
from risenets.net.nets import (
    Net, components, cut_heights, cut_wires, drops, is_cut, is_loop, loop_currents, surplus, work)

NEAR = 10 ** 12
BAD_NET = (NO_NETS, InvalidNet, None)
RING = Net(4, ((0, 1, BATTERY), (1, 2, DIODE), (2, 0, DIODE), (0, 1, FUSE)))


def no_rows(count):
    """Values that are no tuples of so many integers."""
    right = [1] * count
    found = [value for value in JUNK if value != () or count] + [0, LONG, tuple(right + [1]), list(right)]
    for k in range(count):
        for value in (True, None, "1", LONG, -LONG, (1,), [1], 10 ** 99):
            found.append(tuple(right[:k] + [value] + right[k + 1:]))
    return found + ([tuple(right[1:])] if count else [])


class NetTests(unittest.TestCase):
    def test_constants(self):
        self.assertEqual((nets.MOST_KNOTS, nets.MOST_WIRES, nets.MOST_TURNS, nets.NEAR), (12, 24, 40, 10 ** 12))

    def test_properties(self):
        wires = ((0, 1, BATTERY), (1, 0, STAIRS))
        net = Net(2, wires)
        self.assertEqual((net.knots, net.wires, len(net)), (2, wires, 2))
        self.assertEqual((Net(1, ()).knots, Net(1, ()).wires, len(Net(1, ()))), (1, (), 0))
        for name in ("knots", "wires"):
            self.assertIn(name, vars(Net))
            with self.assertRaises(AttributeError):
                setattr(net, name, 1)
        self.assertEqual((net.knots, net.wires), (2, wires))

    def test_methods_stand_in_the_class(self):
        for name in ("__init__", "__len__", "__eq__", "__str__", "knots", "wires"):
            self.assertIn(name, vars(Net))
        self.assertEqual(Net.__module__, "risenets.net.nets")

    def test_str(self):
        self.assertEqual(str(RING), "net of 4 knots, 4 wires")
        self.assertEqual(str(Net(1, ())), "net of 1 knots, 0 wires")
        self.assertEqual(str(plain_net(12, ((0, 1),))), "net of 12 knots, 1 wires")

    def test_equal(self):
        self.assertTrue(RING == Net(4, tuple(list(RING.wires))))
        self.assertFalse(RING != Net(4, RING.wires))
        for other in (Net(5, RING.wires), Net(4, RING.wires[:3]), Net(4, RING.wires[::-1]),
                      Net(4, ((1, 0, BATTERY),) + RING.wires[1:]), Net(4, RING.wires[:3] + ((0, 1, DIODE),))):
            self.assertFalse(RING == other)
            self.assertTrue(RING != other)
        for value in JUNK + [0, 4, (4, RING.wires)]:
            if not isinstance(value, Net):
                self.assertIs(RING == value, False)
                self.assertIs(value == RING, False)
                self.assertIs(RING != value, True)
                self.assertFalse(RING in [value])
        self.assertTrue(RING in [0, None, Net(4, RING.wires)])

    def test_no_iteration(self):
        with self.assertRaises(TypeError):
            iter(RING)

    def test_limits(self):
        wires = tuple((0, 11, ("level", k)) for k in range(24))
        self.assertEqual(len(Net(12, wires)), 24)
        assert_raises(self, InvalidNet, None, Net, 12, wires + ((1, 2, DIODE),))
        assert_raises(self, InvalidNet, None, Net, 13, ())
        assert_raises(self, InvalidNet, None, Net, 0, ())
        for first in ("flat", "steep"):
            self.assertEqual(len(Net(2, ((0, 1, stair(first, 40)),))), 1)
            assert_raises(self, InvalidNet, None, Net, 2, ((0, 1, stair(first, 41)),))
        near = [("level", NEAR), ("plumb", -NEAR), ("steep", ((-NEAR, -NEAR), (NEAR, -NEAR), (NEAR, NEAR)))]
        far = [("level", NEAR + 1), ("plumb", -NEAR - 1), ("flat", ((0, NEAR + 1),)), ("flat", ((-NEAR - 1, 0),)),
               ("steep", ((0, 0), (NEAR + 1, 0))), ("flat", ((0, -NEAR - 1), (0, 0))), ("level", 10 ** 18)]
        for rise in near:
            self.assertEqual(Net(2, ((1, 0, rise),)).wires, ((1, 0, rise),))
        for rise in far:
            assert_raises(self, InvalidNet, None, Net, 2, ((1, 0, rise),))

    def test_refusals(self):
        knots = ODD + ODD_TUPLES + [0, -1, 13, LONG, 10 ** 99, (2,)]
        wires = [value for value in JUNK if value != ()] + [0, [(0, 1, DIODE)], (0, 1, DIODE), ((0, 1),), ([0, 1, DIODE],)]
        wires += [((0, 1, DIODE, 0),), ((0, 0, DIODE),), ((0, 2, DIODE),), ((-1, 0, DIODE),), ((0, True, DIODE),)]
        wires += [((False, 1, DIODE),), ((None, 1, DIODE),), ((0, LONG, DIODE),), (("0", 1, DIODE),), ((0, 1, DIODE), ())]
        wires += [((0, 1, rise),) for rise in NO_RISES]
        assert_refusals(self, Net, [2, ()], {0: (knots, InvalidNet, None), 1: (wires, InvalidNet, None)})


class SumTests(unittest.TestCase):
    def test_surplus(self):
        for salt, net in enumerate(NETS):
            currents = spread(len(net), 9, salt)
            told = surplus(net, currents)
            for knot in range(net.knots):
                comes = sum(currents[k] for k, wire in enumerate(net.wires) if wire[1] == knot)
                goes = sum(currents[k] for k, wire in enumerate(net.wires) if wire[0] == knot)
                self.assertEqual(told[knot], comes - goes)
            self.assertEqual((len(told), sum(told)), (net.knots, 0))

    def test_drops(self):
        for salt, net in enumerate(NETS):
            heights = spread(net.knots, 9, salt)
            wanted = tuple(heights[tail] - heights[head] for tail, head, _ in net.wires)
            self.assertEqual(drops(net, heights), wanted)
            self.assertEqual(drops(net, tuple(n + 5 for n in heights)), wanted)

    def test_work(self):
        for salt, net in enumerate(NETS):
            currents, heights = spread(len(net), 9, salt), spread(net.knots, 9, salt + 50)
            told = work(net, currents, heights)
            self.assertEqual(told, sum(x * y for x, y in zip(currents, drops(net, heights))))
            self.assertEqual(told, -sum(x * y for x, y in zip(surplus(net, currents), heights)))

    def test_no_work_where_currents_add_up(self):
        for net in NETS:
            for k, loop in enumerate(all_loops(net)):
                self.assertEqual(work(net, loop_currents(net, loop), spread(net.knots, 9, k)), 0)

    def test_long(self):
        net = plain_net(2, ((0, 1), (0, 1)))
        self.assertEqual(surplus(net, (SIXTY, SIXTY)), (-2 * SIXTY, 2 * SIXTY))
        self.assertEqual(drops(net, (SIXTY, -SIXTY)), (2 * SIXTY, 2 * SIXTY))
        self.assertEqual(work(net, (SIXTY, 0), (SIXTY, -SIXTY)), 2 * SIXTY * SIXTY)

    def test_components(self):
        wanted = [((0,),), ((0,), (1,), (2,)), ((0, 1),), ((0, 1),), ((0, 1),), ((0, 1, 2),), ((0, 1, 2),), ((0, 1, 2, 3),),
                  ((0, 1, 2, 3),), ((0, 1), (2, 3), (4,)), ((0, 1, 2, 3),), ((0, 2), (1,), (3, 4, 5)),
                  ((0, 1, 2, 3),), ((0, 1, 2, 3, 4),), ((0, 1, 2, 3, 4, 5),)]
        self.assertEqual([components(net) for net in NETS], wanted)
        self.assertEqual(components(plain_net(12, [(k + 1, k) for k in range(11)])), (tuple(range(12)),))
        self.assertEqual(components(plain_net(12, [(11 - k, k) for k in range(6)])),
                         tuple((k, 11 - k) for k in range(6)))


class CutTests(unittest.TestCase):
    def test_judge(self):
        for net in NETS:
            right = all_cuts(net)
            wrong = [(net.knots,), (-1,), (0, 0), (0, net.knots), (False,), (0, True), [0], (1, 0), ((0,),), (0, LONG),
                     (2, 1, 0), tuple(range(net.knots + 1)), (None,), (10 ** 99,)]
            assert_judges(self, is_cut, (net,), right, wrong)

    def test_wires(self):
        for net in NETS:
            for cut in all_cuts(net):
                leaving = tuple(k for k, (a, b, _) in enumerate(net.wires) if a in cut and b not in cut)
                entering = tuple(k for k, (a, b, _) in enumerate(net.wires) if a not in cut and b in cut)
                self.assertEqual(cut_wires(net, cut), (leaving, entering))

    def test_heights(self):
        for net in NETS:
            for cut in all_cuts(net):
                heights = cut_heights(net, cut)
                self.assertEqual(heights, tuple(int(knot in cut) for knot in range(net.knots)))
                leaving, entering = cut_wires(net, cut)
                wanted = tuple(int(k in leaving) - int(k in entering) for k in range(len(net)))
                self.assertEqual(drops(net, heights), wanted)


class LoopTests(unittest.TestCase):
    def test_judge_of_all_short_rows(self):
        for net in NETS[:8]:
            loops = set(all_loops(net))
            steps = [(wire, way) for wire in range(len(net)) for way in (1, -1)]
            for count in range(5):
                for row in itertools.product(steps, repeat=count):
                    self.assertIs(is_loop(net, row), row in loops)

    def test_judge(self):
        for net in NETS:
            loops = all_loops(net)
            steps = [(len(net), 1), (-1, 1), (0, 0), (0, 2), (0, True), (True, 1), (None, 1), (0,), (0, 1, 1), (LONG, 1)]
            wrong = [()] + [(step,) for step in steps]
            for loop in loops[:20]:
                wrong += [loop[:-1], loop + loop, list(loop), loop[:-1] + ((loop[-1][0], -loop[-1][1]),), loop + (loop[0],)]
                wrong += [loop[:-1] + (step,) for step in steps] + [tuple(map(list, loop)), (loop,), loop + ((0, 1), (0, -1))]
            assert_judges(self, is_loop, (net,), loops, [value for value in wrong if value not in loops])
        self.assertIs(is_loop(NETS[3], ((0, True), (1, -1))), False)
        self.assertIs(is_loop(NETS[3], ((0, 1), (True, -1))), False)

    def test_two_rounds_that_meet_are_no_loop(self):
        net = plain_net(5, ((0, 1), (1, 2), (2, 0), (2, 3), (3, 4), (4, 2)))
        both = ((0, 1), (1, 1), (3, 1), (4, 1), (5, 1), (2, 1))
        self.assertIs(is_loop(net, both), False)
        self.assertIs(is_loop(net, ((0, 1), (1, 1), (2, 1))), True)

    def test_long_loop(self):
        net = plain_net(12, [(k, (k + 1) % 12) for k in range(12)])
        loop = tuple((k, 1) for k in range(12))
        back = tuple((k, -1) for k in range(11, -1, -1))
        for k in range(12):
            self.assertIs(is_loop(net, loop[k:] + loop[:k]), True)
            self.assertIs(is_loop(net, back[k:] + back[:k]), True)
        self.assertIs(is_loop(net, loop[:11]), False)
        self.assertIs(is_loop(net, loop[::-1]), False)

    def test_currents(self):
        for net in NETS:
            for loop in all_loops(net):
                currents = loop_currents(net, loop)
                self.assertEqual(currents, tuple(dict(loop).get(k, 0) for k in range(len(net))))
                self.assertEqual(set(surplus(net, currents)), {0})


class RefusalTests(unittest.TestCase):
    def test_refusals(self):
        for net in (RING, Net(1, ()), Net(2, ((0, 1, DIODE),))):
            currents, heights = (0,) * len(net), (0,) * net.knots
            bad_currents = (no_rows(len(net)), InvalidCurrents, None)
            bad_heights = (no_rows(net.knots), InvalidHeights, None)
            assert_refusals(self, components, [net], {0: BAD_NET})
            assert_refusals(self, surplus, [net, currents], {0: BAD_NET, 1: bad_currents})
            assert_refusals(self, drops, [net, heights], {0: BAD_NET, 1: bad_heights})
            assert_refusals(self, work, [net, currents, heights], {0: BAD_NET, 1: bad_currents, 2: bad_heights})
            assert_refusals(self, is_cut, [net, (0,)], {0: BAD_NET})
            assert_refusals(self, is_loop, [net, ()], {0: BAD_NET})

    def test_refusals_of_cuts_and_loops(self):
        no_cuts = JUNK + [0, LONG, (4,), (-1,), (1, 0), (0, 0), [0], (0, True), (0, 4), (LONG,)]
        no_loops = JUNK + [0, LONG, ((0, 1),), ((0, 1), (0, -1)), ((0, 1), (3, 1)), ((0, 1), (4, -1)), [(0, 1), (3, -1)],
                           ((0, True), (3, -1)), ((0, 1), (1, 1)), ((0, 1), (1, 1), (2, -1)), ((0, 1), (-1, -1))]
        for function in (cut_wires, cut_heights):
            assert_refusals(self, function, [RING, (0,)], {0: BAD_NET, 1: (no_cuts, InvalidOperation, None)})
        assert_refusals(self, loop_currents, [RING, ((0, 1), (3, -1))],
                        {0: BAD_NET, 1: (no_loops, InvalidOperation, None)})


if __name__ == "__main__":
    unittest.main()
