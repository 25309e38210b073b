"""Stage 9: states."""

import itertools
import unittest

from helpers import (
    BATTERY, DIODE, FUSE, JUNK, LONG, NETS, NO_INTEGERS, SIXTY, STAIRS, STEPS, all_cuts, all_fights, all_loops,
    assert_judges, assert_raises, assert_refusals, digits, dressed_nets, fighting_cuts, fighting_loops, great_net,
    plain_net, rests, spread, windows)
from risenets.errors import InvalidCurrents, InvalidHeights, InvalidNumber, InvalidOperation
from risenets.net.nets import Net, drops, surplus
from risenets.rise.joins import turned
from risenets.rise.rises import is_on
from risenets.state.states import (
    broken_wires, is_answer, is_fight, is_state, other_way, renumbered, state_or_fight, surplus_knots)
from test_nets import BAD_NET, no_rows

LAMP = Net(3, ((0, 1, BATTERY), (1, 2, DIODE), (2, 0, STAIRS)))
SMALL = dressed_nets(NETS, 16)
# A cut and a loop that fight at once.
TORN = Net(4, ((0, 1, BATTERY), (0, 1, ("level", 4)), (2, 3, ("plumb", 3)), (3, 2, FUSE)))


class EitherOrTests(unittest.TestCase):
    def check(self, net):
        """Either a state is told, and nothing fights, or something that fights; the word is returned."""
        told = state_or_fight(net)
        fights = all_fights(net)
        self.assertIs(is_answer(net, told), True)
        if told[0] == "state":
            self.assertEqual(len(told), 3)
            self.assertTrue(rests(net, told[1:]))
            self.assertIs(is_state(net, told[1:]), True)
            self.assertEqual(fights, [])
        else:
            self.assertIn(told, fights)
            self.assertIs(is_fight(net, told), True)
        return told[0]

    def test_either_or(self):
        words = [self.check(net) for net in SMALL]
        for word in ("state", "cut", "loop"):
            self.assertGreater(words.count(word), 20)

    def test_every_state_is_found_by_trying_all(self):
        for net in [net for net in SMALL if len(net) <= 2 and net.knots <= 3]:
            heights = [row for row in windows(net.knots, 4) if row[0] == 0]
            some = any(rests(net, value) for value in itertools.product(windows(len(net), 4), heights))
            if some:
                self.assertEqual(state_or_fight(net)[0], "state")

    def test_fights_are_judged_by_their_sums(self):
        for net in SMALL:
            cuts, loops = fighting_cuts(net), fighting_loops(net)
            for cut in all_cuts(net):
                self.assertIs(is_fight(net, ("cut", cut)), cut in cuts)
                self.assertIs(is_answer(net, ("cut", cut)), cut in cuts)
            for loop in all_loops(net):
                self.assertIs(is_fight(net, ("loop", loop)), loop in loops)
                self.assertIs(is_answer(net, ("loop", loop)), loop in loops)

    def test_both_may_fight_at_once(self):
        self.assertEqual((fighting_cuts(TORN)[0], fighting_loops(TORN)[0]), ((2,), ((0, 1), (1, -1))))
        self.check(TORN)
        for fight in all_fights(TORN):
            self.assertIs(is_fight(TORN, fight), True)

    def test_no_wires(self):
        for knots in (1, 3, 12):
            self.assertEqual(self.check(Net(knots, ())), "state")
        self.assertIs(is_state(Net(2, ()), ((), (7, -10 ** 99))), True)

    def test_one_state_and_many(self):
        one = Net(2, ((0, 1, ("level", 1)), (1, 0, ("plumb", 3))))
        self.assertEqual(state_or_fight(one)[1], (3, 3))
        self.assertEqual(drops(one, state_or_fight(one)[2]), (1, -1))
        many = Net(2, ((0, 1, ("level", 1)), (1, 0, ("level", -1))))
        for n in (0, -5, 10 ** 99):
            self.assertIs(is_state(many, ((n, n), (1 + n, n))), True)

    def test_wires_beside_one_another(self):
        self.assertEqual(self.check(Net(2, ((0, 1, FUSE), (1, 0, FUSE), (0, 1, STEPS)))), "state")
        self.assertEqual(self.check(Net(2, ((0, 1, BATTERY), (1, 0, BATTERY)))), "loop")
        self.assertEqual(self.check(Net(2, ((0, 1, ("plumb", 1)), (1, 0, ("plumb", 2))))), "cut")

    def test_a_cut_is_of_all_wires(self):
        first = ((0, 1, ("plumb", 3)), (1, 0, FUSE))
        self.assertEqual(self.check(Net(2, first)), "cut")
        self.assertEqual(self.check(Net(2, first + ((1, 0, ("plumb", 1)),))), "state")

    def test_great_nets(self):
        words = []
        for salt, firsts in itertools.product(range(4), (("flat", "steep"), ("steep",), ("steep", "steep", "flat"))):
            for corners in (40, 39, 1):
                net = great_net(firsts, salt, corners)
                told = state_or_fight(net)
                self.assertIs(is_answer(net, told), True)
                self.assertLessEqual(digits(told), 60)
                words.append(told[0])
        self.assertGreaterEqual(len(set(words)), 2)
        self.assertIn("state", words)

    def test_many_wires_in_a_row_of_knots(self):
        ring = Net(12, tuple((k, (k + 1) % 12, ("level", 1 if k else -11)) for k in range(12)) + tuple(
            (k, (k + 1) % 12, ("plumb", k)) for k in range(12)))
        self.assertEqual(state_or_fight(ring)[0], "state")
        broken = Net(12, ((0, 1, ("level", 1)),) + ring.wires[1:])
        self.assertEqual(state_or_fight(broken)[0], "loop")
        self.assertEqual(len(state_or_fight(broken)[1]), 12)


class JudgeTests(unittest.TestCase):
    def test_states_are_what_their_words_say(self):
        for net in [net for net in SMALL if len(net) <= 2 and net.knots <= 3][:24]:
            for value in itertools.product(windows(len(net), 3), windows(net.knots, 2)):
                right = rests(net, value)
                self.assertIs(is_state(net, value), right)
                self.assertIs(is_answer(net, ("state", *value)), right)
                self.assertEqual(right, not broken_wires(net, *value) and not surplus_knots(net, value[0]))

    def test_is_state(self):
        right = [((0, 0, 0), (n, n - 5, n - 1)) for n in (0, 1, -7, 10 ** 50, 10 ** 99)] + [((0, 0, 0), (0, -5, 1))]
        self.assertTrue(all(rests(LAMP, value) for value in right if value[1][0] < LONG))
        wrong = [((0, 0, 0), (0, -5, 2)), ((1, 0, 0), (0, -5, -1)), ((0, 0, False), (0, -5, -1)), ((0, 0, 0), (False, -5, -1)),
                 ([0, 0, 0], (0, -5, -1)), ((0, 0, 0), [0, -5, -1]), ((0, 0), (0, -5, -1)), ((0, 0, 0), (0, -5)),
                 ((0, 0, 0), (0, -5, -1), 0), ((0, 0, 0),), [(0, 0, 0), (0, -5, -1)], ("state", (0, 0, 0), (0, -5, -1)),
                 ((0, 0, None), (0, -5, -1)), ((10 ** 99, 0, 0), (0, -5, -1)), ((0, 0, 0), (10 ** 99, -5, -1))]
        assert_judges(self, is_state, (LAMP,), right, wrong)
        taken = [("state", *value) for value in right]
        wrong = [("state", *value) for value in wrong if isinstance(value, tuple)] + wrong + right
        wrong += [("State", *value) for value in right] + [["state", *value] for value in right] + [("state", right[0])]
        assert_judges(self, is_answer, (LAMP,), taken, [value for value in wrong if value not in taken])

    def test_is_fight(self):
        net = Net(2, ((0, 1, ("plumb", 3)), (1, 0, FUSE)))
        wrong = [("cut", (1,)), ("cut", (0, 1)), ("cut", ()), ("cut", [0]), ("cut", (False,)), ("loop", (0,)), ("Cut", (0,)),
                 ("cut", (0,), 0), ["cut", (0,)], (0,), ("cut", 0), ("cut", (2,)), ("loop", ((0, 1), (1, 1))), ("cut", (0, 0))]
        for function in (is_fight, is_answer):
            assert_judges(self, function, (net,), [("cut", (0,))], wrong)
        net = Net(2, ((0, 1, BATTERY), (0, 1, ("level", 4))))
        right = [("loop", ((0, 1), (1, -1))), ("loop", ((1, -1), (0, 1)))]
        wrong += [(word, right[0][1]) for word in ("Loop", "", None, "state", ("loop",), True)]
        wrong += [("loop", ((0, -1), (1, 1))), ("loop", ((0, True), (1, -1))), ("loop", [(0, 1), (1, -1)]), ("loop", ()),
                  ("loop", ((0, 1), (1, -1)), 0), ("cut", ((0, 1), (1, -1))), ("cut", (0,)), ("loop", ((0, 1),))]
        for function in (is_fight, is_answer):
            assert_judges(self, function, (net,), right, wrong)

    def test_broken_wires_and_surplus_knots(self):
        for at, net in enumerate(SMALL):
            currents, heights = spread(len(net), 3, at), spread(net.knots, 3, at + 9)
            broken = [k for k, (tail, head, rise) in enumerate(net.wires)
                      if not is_on(rise, currents[k], heights[tail] - heights[head])]
            self.assertEqual(broken_wires(net, currents, heights), tuple(broken))
            more = surplus(net, currents)
            told = surplus_knots(net, currents)
            self.assertEqual(told, {knot: more[knot] for knot in range(net.knots) if more[knot]})
            self.assertEqual(list(told), sorted(told))
        self.assertEqual(broken_wires(LAMP, (SIXTY,) * 3, (SIXTY, -SIXTY, 0)), (0, 1, 2))
        self.assertEqual(surplus_knots(LAMP, (SIXTY, 0, 0)), {0: -SIXTY, 1: SIXTY})
        self.assertEqual(surplus_knots(LAMP, (5, 5, 5)), {})


class KeptTests(unittest.TestCase):
    def test_renumbered(self):
        net = renumbered(LAMP, (2, 0, 1))
        self.assertEqual(net.wires, ((1, 2, BATTERY), (2, 0, DIODE), (0, 1, STAIRS)))
        for net in SMALL[::5]:
            order = tuple(sorted(range(net.knots), key=lambda k: (k * 7 + 3) % 11))
            other = renumbered(net, order)
            self.assertEqual((other.knots, len(other)), (net.knots, len(net)))
            for (tail, head, rise), (new_tail, new_head, new_rise) in zip(net.wires, other.wires):
                self.assertEqual((order[new_tail], order[new_head], new_rise), (tail, head, rise))
            told = state_or_fight(net)
            if told[0] == "state":
                heights = tuple(told[2][order[knot]] for knot in range(net.knots))
                self.assertIs(is_state(other, (told[1], heights)), True)
            else:
                self.assertNotEqual(state_or_fight(other)[0], "state")

    def test_other_way(self):
        for net in SMALL[::5]:
            told = state_or_fight(net)
            for wire in range(len(net)):
                other = other_way(net, wire)
                tail, head, rise = net.wires[wire]
                self.assertEqual(other.wires[wire], (head, tail, turned(rise)))
                self.assertEqual(other.wires[:wire] + other.wires[wire + 1:], net.wires[:wire] + net.wires[wire + 1:])
                self.assertEqual(other_way(other, wire), net)
                if told[0] == "state":
                    currents = tuple(-n if k == wire else n for k, n in enumerate(told[1]))
                    self.assertIs(is_state(other, (currents, told[2])), True)
                else:
                    self.assertNotEqual(state_or_fight(other)[0], "state")

    def test_two_nets_beside_one_another(self):
        for net, other in zip(SMALL[::7], SMALL[3::7]):
            if net.knots + other.knots > 12:
                continue
            shifted = tuple((tail + net.knots, head + net.knots, rise) for tail, head, rise in other.wires)
            both = Net(net.knots + other.knots, net.wires + shifted)
            one, two = state_or_fight(net), state_or_fight(other)
            self.assertEqual(state_or_fight(both)[0] == "state", one[0] == two[0] == "state")
            if one[0] == two[0] == "state":
                self.assertIs(is_state(both, (one[1] + two[1], one[2] + two[2])), True)

    def test_one_number_more_for_a_component(self):
        net = Net(4, ((0, 1, BATTERY), (2, 3, FUSE)))
        for more in (1, -7, 10 ** 99):
            self.assertIs(is_state(net, ((0, 0), (5 + more, more, 0, 0))), True)
            self.assertIs(is_state(net, ((0, 0), (5, 0, more, more))), True)
            self.assertIs(is_state(net, ((0, 0), (5, more, 0, 0))), False)


class RefusalTests(unittest.TestCase):
    def test_refusals(self):
        bad_currents = (no_rows(3), InvalidCurrents, None)
        bad_heights = (no_rows(3), InvalidHeights, None)
        no_orders = [value for value in no_rows(3)] + [(0, 1, 1), (1, 2, 3), (0, 1, -1), [0, 1, 2], (0, 1, True), (0, 0, 0)]
        assert_refusals(self, state_or_fight, [LAMP], {0: BAD_NET})
        for function in (is_state, is_fight, is_answer):
            assert_refusals(self, function, [LAMP, None], {0: BAD_NET})
        assert_refusals(self, broken_wires, [LAMP, (0,) * 3, (0,) * 3], {0: BAD_NET, 1: bad_currents, 2: bad_heights})
        assert_refusals(self, surplus_knots, [LAMP, (0,) * 3], {0: BAD_NET, 1: bad_currents})
        assert_refusals(self, renumbered, [LAMP, (2, 0, 1)], {0: BAD_NET, 1: (no_orders, InvalidOperation, None)})
        assert_refusals(self, other_way, [LAMP, 0], {0: BAD_NET, 1: (NO_INTEGERS + [-1, 3, 10], InvalidNumber, "given")})

    def test_nets_without_wires(self):
        assert_raises(self, InvalidNumber, ("given", 0), other_way, Net(2, ()), 0)
        assert_raises(self, InvalidOperation, None, renumbered, Net(1, ()), ())
        self.assertEqual(renumbered(Net(1, ()), (0,)), Net(1, ()))
        assert_judges(self, is_state, (Net(1, ()),), [((), (0,)), ((), (LONG,))], [((), (True,)), ((), ()), ((0,), (0,))] + JUNK)
        assert_judges(self, is_fight, (plain_net(3, ()),), [], [("cut", cut) for cut in all_cuts(plain_net(3, ()))])


if __name__ == "__main__":
    unittest.main()
