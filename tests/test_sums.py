"""Stage 5: sums of loops and of cuts, heights or a loop."""

import itertools
import unittest

from helpers import (
    DIODE, LONG, NETS, SIXTY, all_cuts, all_loops, assert_judges, assert_raises, assert_refusals, plain_net, spread)
from risenets.errors import InvalidCurrents, InvalidHeights, InvalidOperation, Refused
from risenets.net.nets import Net, cut_heights, drops, is_cut, is_loop, loop_currents, surplus
from risenets.net.sums import cuts_of, heights_or_turn, is_heights_or_turn, is_loops_of, loops_of
from test_nets import BAD_NET, RING, no_rows


def mixed_currents(net, salt, most):
    """Currents that add up: loops of the net, each some times."""
    currents = [0] * len(net)
    loops = all_loops(net)
    for loop, times in zip(loops, spread(len(loops), most, salt)):
        for wire, way in loop:
            currents[wire] += way * times
    return tuple(currents)


class LoopsOfTests(unittest.TestCase):
    def check(self, net, currents):
        told = loops_of(net, currents)
        self.assertIs(is_loops_of(net, currents, told), True)
        total = [0] * len(net)
        for loop, times in told:
            self.assertTrue(is_loop(net, loop))
            self.assertGreaterEqual(times, 1)
            for wire, way in loop:
                self.assertGreater(way * currents[wire], 0)
                total[wire] += way * times
        self.assertEqual(tuple(total), currents)
        self.assertLessEqual(len(told), len(net))
        self.assertEqual(len({frozenset(wire for wire, _ in loop) for loop, _ in told}), len(told))

    def test_sums(self):
        for net in NETS:
            for salt, most in itertools.product(range(5), (1, 4, 10 ** 25)):
                self.check(net, mixed_currents(net, salt, most))
            for loop in all_loops(net):
                self.check(net, loop_currents(net, loop))

    def test_no_currents(self):
        for net in NETS:
            self.assertEqual(loops_of(net, (0,) * len(net)), ())
            self.assertIs(is_loops_of(net, (0,) * len(net), ()), True)
            for loop in all_loops(net):
                for times in (0, 1, -1, False):
                    self.assertIs(is_loops_of(net, (0,) * len(net), ((loop, times),)), False)

    def test_great_nets_and_currents(self):
        ring = plain_net(12, [(k, (k + 1) % 12) for k in range(12)] + [((k + 1) % 12, k) for k in range(12)])
        self.check(ring, (SIXTY,) * 24)
        self.check(ring, tuple(range(1, 13)) + tuple(range(1, 13)))
        full = plain_net(7, list(itertools.combinations(range(7), 2)))
        for salt in range(3):
            self.check(full, round_trips(full, salt))
        self.assertEqual(loops_of(plain_net(2, ((0, 1), (0, 1))), (SIXTY, -SIXTY))[0][1], SIXTY)

    def test_surplus_is_refused_with_the_least_knot(self):
        for salt, net in enumerate(NETS):
            currents = spread(len(net), 3, salt)
            bad = [knot for knot, more in enumerate(surplus(net, currents)) if more != 0]
            if bad:
                assert_raises(self, Refused, ("reason", ("surplus", bad[0])), loops_of, net, currents)
                for value in ((), (((), 1),)):
                    self.assertIs(is_loops_of(net, currents, value), False)
        net = plain_net(6, ((3, 2), (5, 4)))
        assert_raises(self, Refused, ("reason", ("surplus", 2)), loops_of, net, (1, 1))
        assert_raises(self, Refused, ("reason", ("surplus", 4)), loops_of, net, (0, -SIXTY))

    def test_judge(self):
        first, second, third = ((0, 1), (1, 1), (2, 1)), ((1, 1), (2, 1), (3, 1)), ((0, 1), (3, -1))
        right = [((first, 2), (second, 1)), ((second, 1), (first, 2)), ((first[1:] + first[:1], 2), (second, 1))]
        wrong = [((first, 2),), ((first, 3),), ((first, 3), (third, 1)), ((first, 1), (first, 1), (second, 1)), (),
                 ((first, 1), (first[1:] + first[:1], 1), (second, 1)), [(first, 2), (second, 1)],
                 ((first, 2), (second, True)), ((first, 2), [second, 1]), ((first, 2), (second, 1, 0)),
                 ((first, 2), (second, 1), (third, 0)), ((first, 2), (second, 1), ((), 1)), ((first, 2), (second, 2)),
                 ((first, 3), (((3, 1), (0, -1)), 1)), ((first, 2), (second,)), (first, 2), (first, second),
                 ((first, 2), (((1, -1), (3, -1), (2, -1)), -1)), ((list(first), 2), (second, 1)), ((first, 2), None),
                 ((first, 2.0), (second, 1)), ((first, 10 ** 99), (second, 1)), ((first, 2), (second, "1"))]
        assert_judges(self, is_loops_of, (RING, (2, 3, 3, 1)), right, wrong)
        self.assertIs(is_loops_of(RING, (2, 3, 3, 1), ((first, 3), (((3, 1), (0, -1)), 1))), False)

    def test_judge_refuses_loops_against_a_current(self):
        net = plain_net(2, ((0, 1), (0, 1), (1, 0)))
        currents = (2, 1, 3)
        right = [((((0, 1), (2, 1)), 2), (((1, 1), (2, 1)), 1))]
        wrong = [((((0, 1), (2, 1)), 3), (((1, 1), (0, -1)), 1)), ((((1, 1), (2, 1)), 3), (((0, 1), (1, -1)), 2))]
        assert_judges(self, is_loops_of, (net, currents), right, wrong)

    def test_a_wire_without_a_current_is_not_gone_against_it(self):
        net = plain_net(2, ((0, 1), (0, 1), (0, 1)))
        value = ((((0, 1), (1, -1)), 1), (((1, 1), (2, -1)), 1))
        self.assertIs(is_loops_of(net, (1, 0, -1), value), True)
        self.assertIs(is_loops_of(net, (1, 0, -1), ((((0, 1), (2, -1)), 1),)), True)
        self.assertIs(is_loops_of(net, (1, 1, -2), value), False)

    def test_at_most_as_many_loops_as_wires(self):
        net = plain_net(3, ((0, 1), (0, 1), (1, 2), (1, 2), (2, 0), (2, 0)))
        loops = [((a, 1), (b, 1), (c, 1)) for a in (0, 1) for b in (2, 3) for c in (4, 5)]
        every = tuple((loop, 1) for loop in loops)
        self.assertIs(is_loops_of(net, (4,) * 6, every), False)
        even = tuple((loop, 2) for loop in loops if sum(wire for wire, _ in loop) % 2 == 0)
        self.assertIs(is_loops_of(net, (4,) * 6, even), True)
        self.check(net, (4,) * 6)

    def test_two_ways_to_add_up(self):
        net = plain_net(3, ((0, 1), (0, 1), (1, 0), (1, 0)))
        for a, b in ((2, 3), (3, 2)):
            value = ((((0, 1), (a, 1)), 1), (((1, 1), (b, 1)), 1))
            self.assertIs(is_loops_of(net, (1, 1, 1, 1), value), True)


def round_trips(net, salt):
    """Currents that add up on a great net: rounds of three knots, each some times."""
    index = {(tail, head): wire for wire, (tail, head, _) in enumerate(net.wires)}
    currents = [0] * len(net)
    rounds = list(itertools.combinations(range(net.knots), 3))
    for (a, b, c), times in zip(rounds, spread(len(rounds), 9, salt)):
        currents[index[a, b]] += times
        currents[index[b, c]] += times
        currents[index[a, c]] -= times
    return tuple(currents)


class CutsOfTests(unittest.TestCase):
    def test_sums(self):
        for net in NETS:
            for salt, most in itertools.product(range(4), (1, 5, SIXTY)):
                heights = spread(net.knots, 5, salt) if most != SIXTY else tuple(
                    SIXTY * n // 5 for n in spread(net.knots, 5, salt))
                told = cuts_of(net, heights)
                total = [min(heights)] * net.knots
                for cut, times in told:
                    self.assertTrue(is_cut(net, cut))
                    self.assertGreaterEqual(times, 1)
                    for knot in cut:
                        total[knot] += times
                self.assertEqual(tuple(total), heights)
                self.assertEqual(len(told), len(set(heights)) - 1)
                sizes = [len(cut) for cut, _ in told]
                self.assertEqual(sizes, sorted(set(sizes)))

    def test_plain(self):
        net = plain_net(4, ())
        self.assertEqual(cuts_of(net, (7, 7, 7, 7)), ())
        self.assertEqual(cuts_of(net, (0, -5, 3, 3)), (((2, 3), 3), ((0, 2, 3), 5)))
        self.assertEqual(cuts_of(plain_net(2, ()), (SIXTY, -SIXTY)), (((0,), 2 * SIXTY),))
        self.assertEqual(cuts_of(plain_net(1, ()), (5,)), ())


class HeightsOrTurnTests(unittest.TestCase):
    def check(self, net, numbers):
        told = heights_or_turn(net, numbers)
        self.assertIs(is_heights_or_turn(net, numbers, told), True)
        if told[0] == "heights":
            self.assertEqual(drops(net, told[1]), numbers)
        else:
            self.assertTrue(is_loop(net, told[1]))
            self.assertNotEqual(sum(way * numbers[wire] for wire, way in told[1]), 0)
        return told[0]

    def test_either_or(self):
        for net in NETS:
            loops = all_loops(net)
            for salt in range(30):
                numbers = spread(len(net), 1 + salt % 3, salt)
                turns = any(sum(way * numbers[wire] for wire, way in loop) for loop in loops)
                self.assertEqual(self.check(net, numbers), "loop" if turns else "heights")
                self.assertEqual(self.check(net, drops(net, spread(net.knots, 9, salt))), "heights")

    def test_tensions_of_cuts(self):
        for net in NETS:
            for cut in all_cuts(net):
                self.assertEqual(self.check(net, drops(net, cut_heights(net, cut))), "heights")

    def test_great_nets_and_numbers(self):
        full = plain_net(7, list(itertools.combinations(range(7), 2)))
        numbers = drops(full, tuple(10 ** 29 * k * k for k in range(7)))
        self.assertEqual(self.check(full, numbers), "heights")
        for wire in range(len(full)):
            self.assertEqual(self.check(full, numbers[:wire] + (numbers[wire] + 1,) + numbers[wire + 1:]), "loop")
        row = plain_net(12, [(k, k + 1) if k % 2 else (k + 1, k) for k in range(11)])
        self.assertEqual(self.check(row, (10 ** 30,) * 11), "heights")
        self.assertLess(max(abs(height) for height in heights_or_turn(row, (10 ** 30,) * 11)[1]), LONG)
        self.assertEqual(self.check(row, (SIXTY,) * 11), "heights")
        ring = plain_net(12, [(k, (k + 1) % 12) for k in range(12)])
        self.assertEqual(self.check(ring, (SIXTY,) * 11 + (-SIXTY,)), "loop")

    def test_judge_of_heights(self):
        numbers = (1, 1, -2, 1)
        right = [("heights", (n, n - 1, n - 2, m)) for n in (0, -4, 10 ** 99) for m in (0, 7, -10 ** 99)]
        wrong = [("heights", (1, 1, -1, 0)), ("heights", (2, 1, False, 0)), ("heights", (2, True, 0, 0)),
                 ("heights", (2, 1, 0)), ("heights", (2, 1, 0, 0, 0)), ("heights", [2, 1, 0, 0]), ["heights", (2, 1, 0, 0)],
                 ("heights", (2, 1, 0, None)), ("loop", ((0, 1), (3, -1))), ("loop", ((0, 1), (1, 1), (2, 1))),
                 ("heights",), ("heights", (2, 1, 0, 0), 0), ("Heights", (2, 1, 0, 0)), (2, 1, 0, 0)]
        assert_judges(self, is_heights_or_turn, (RING, numbers), right, wrong)

    def test_judge_of_loops(self):
        numbers = (1, 1, -2, 2)
        loops = [loop for loop in all_loops(RING) if sum(way * numbers[wire] for wire, way in loop)]
        others = [loop for loop in all_loops(RING) if loop not in loops]
        self.assertTrue(loops and others)
        wrong = [("loop", loop) for loop in others] + [("loop", loops[0][:-1]), ("loop", list(loops[0])), ("cut", (0,))]
        wrong += [("heights", (2, 1, 0, 0)), ("loop",), ("loop", loops[0], 0), ("loop", ((0, True), (3, -1))), loops[0]]
        wrong += [(word, loops[0]) for word in ("Loop", "cut", "heights", None, "")]
        assert_judges(self, is_heights_or_turn, (RING, numbers), [("loop", loop) for loop in loops], wrong)

    def test_no_wires(self):
        self.assertEqual(heights_or_turn(Net(1, ()), ())[0], "heights")
        self.assertIs(is_heights_or_turn(Net(2, ()), (), ("heights", (4, -9))), True)


class RefusalTests(unittest.TestCase):
    def test_refusals(self):
        for net in (RING, Net(1, ()), Net(2, ((0, 1, DIODE),))):
            currents, heights = (0,) * len(net), (0,) * net.knots
            bad_currents = (no_rows(len(net)), InvalidCurrents, None)
            bad_numbers = (no_rows(len(net)), InvalidOperation, None)
            assert_refusals(self, loops_of, [net, currents], {0: BAD_NET, 1: bad_currents})
            assert_refusals(self, is_loops_of, [net, currents, ()], {0: BAD_NET, 1: bad_currents})
            assert_refusals(self, cuts_of, [net, heights], {0: BAD_NET, 1: (no_rows(net.knots), InvalidHeights, None)})
            assert_refusals(self, heights_or_turn, [net, currents], {0: BAD_NET, 1: bad_numbers})
            assert_refusals(self, is_heights_or_turn, [net, currents, ()], {0: BAD_NET, 1: bad_numbers})

    def test_what_comes_then_is_last(self):
        assert_raises(self, InvalidCurrents, None, loops_of, RING, (2, 2, 3, LONG))
        assert_raises(self, Refused, ("reason", ("surplus", 0)), loops_of, RING, (2, 2, 3, SIXTY))


if __name__ == "__main__":
    unittest.main()
