"""Stage 14: changes of one wire."""

import itertools
import unittest

from helpers import (
    BATTERY, DIODE, FUSE, JUNK, LONG, NEAR, NETS, NO_INTEGERS, NO_RISES, SIXTY, STAIRS, STEPS, all_fights, assert_raises,
    assert_refusals, dressed_nets, great_net, is_inside, plain_net, rests, small_rises, stair, tall)
from risenets.change.one import (
    does_keep, fixed, has_state_with, moved_net, points_of, range_right, range_up, rest_of, with_rise)
from risenets.ends.seen import seen
from risenets.errors import InvalidNet, InvalidNumber, InvalidOperation, InvalidRise, InvalidState, Refused, TooMany
from risenets.net.nets import Net, drops
from risenets.rise.joins import meeting, meetings, moved
from risenets.rise.rises import is_on
from risenets.state.box import furthest_current, furthest_height
from risenets.state.states import is_state, state_or_fight
from test_nets import BAD_NET
from test_seen import LONG_ROW
from test_states import TORN

TWIN = Net(2, ((0, 1, STAIRS), (1, 0, ("steep", ((-1, 0), (1, 0))))))
SMALL = [net for net in dressed_nets(NETS, 6) if len(net)]
CASES = [(net, wire) for net in SMALL for wire in range(min(len(net), 3))]


def without(net, wire):
    """The net without the wire."""
    return Net(net.knots, net.wires[:wire] + net.wires[wire + 1:])


def rest(net, wire):
    """What the rest is seen as."""
    return seen(without(net, wire), *net.wires[wire][:2])


def changed(net, wire, rise):
    """The net with this rise for the wire."""
    tail, head, _ = net.wires[wire]
    return Net(net.knots, net.wires[:wire] + ((tail, head, rise),) + net.wires[wire + 1:])


class RestTests(unittest.TestCase):
    def test_rest(self):
        words = []
        for net, wire in CASES:
            told = rest_of(net, wire)
            if told[0] == "rise":
                self.assertEqual(told, rest(net, wire))
            else:
                tail, head, _ = net.wires[wire]
                fights = [fight for fight in all_fights(without(net, wire))
                          if fight[0] == "loop" or (tail in fight[1]) == (head in fight[1])]
                self.assertIn(told, fights)
            words.append(told[0])
        self.assertGreater(min(words.count("rise"), len(words) - words.count("rise")), 20)

    def test_too_many(self):
        net = Net(12, LONG_ROW.wires + ((0, 11, ("steep", ((0, 1000),))),))
        assert_raises(self, TooMany, ("limit", 400), rest_of, net, 11)
        self.assertEqual(rest_of(net, 0)[0], "rise")
        # Along 1000 the current is where the last stair is steep: it is at 10 there at least, the others make 45.
        self.assertEqual(points_of(net, 11), ((110, 110), (1000, 1000)))
        # The least tension of the row is the sum of the first ones of all stairs, the most one that of the last ones.
        least, most = sum(range(11)), sum(k + 20 * (1000 + 7 * k) for k in range(11))
        self.assertEqual((range_up(net, 11), range_right(net, 11)), ((least - 1000, None), (None, None)))
        self.assertEqual([has_state_with(net, 11, ("level", y)) for y in (least - 1, least, most, most + 1)], [False, True, True, False])
        self.assertIs(has_state_with(net, 11, ("plumb", 5)), True)


class PointTests(unittest.TestCase):
    def test_points(self):
        for net, wire in CASES:
            told, answer = rest(net, wire), state_or_fight(net)
            if answer[0] != "state":
                with self.assertRaises(Refused) as caught:
                    points_of(net, wire)
                self.assertIn(caught.exception.reason, all_fights(net))
                continue
            points = points_of(net, wire)
            self.assertEqual(points, meetings(net.wires[wire][2], told[1]))
            self.assertTrue(points[0][0] == points[0][1] is not None or points[1][0] == points[1][1] is not None)
            tail, head, _ = net.wires[wire]
            ends = [furthest_current(net, wire, way)[:2] for way in (-1, 1)]
            self.assertEqual(points[0], tuple(end[1] if end[0] == "current" else None for end in ends))
            down, up = furthest_height(net, head, tail)[:2], furthest_height(net, tail, head)[:2]
            self.assertEqual(points[1], (-down[1] if down[0] == "height" else None, up[1] if up[0] == "height" else None))

    def test_has_state_with_any_rise(self):
        rises = small_rises()[::3]
        told_words = []
        for at, (net, wire) in enumerate(CASES):
            told = rest(net, wire)
            for rise in rises[at % 3::3]:
                right = told[0] == "rise" and meeting(rise, told[1])[0] == "met"
                self.assertIs(has_state_with(net, wire, rise), right)
                self.assertEqual(right, state_or_fight(changed(net, wire, rise))[0] == "state")
                told_words.append(right)
        self.assertGreater(min(told_words.count(True), told_words.count(False)), 100)

    def test_rises_that_no_net_can_have(self):
        far = 10 ** 18
        self.assertIs(has_state_with(TWIN, 0, ("level", far)), True)
        self.assertIs(has_state_with(TWIN, 0, ("plumb", far)), False)
        self.assertIs(has_state_with(TWIN, 0, stair("steep", 400, (-9, -9))), True)
        self.assertIs(has_state_with(TWIN, 0, ("steep", ((far, 0),))), False)
        self.assertIs(has_state_with(TWIN, 0, ("flat", ((-far, far),))), False)

    def test_with_rise(self):
        for net, wire in CASES[::5]:
            for rise in (BATTERY, STEPS):
                self.assertEqual(with_rise(net, wire, rise), changed(net, wire, rise))
        self.assertEqual(with_rise(TWIN, 1, stair("flat", 40)).wires[1], (1, 0, stair("flat", 40)))
        for rise in (stair("flat", 41), ("level", NEAR + 1), ("plumb", -NEAR - 1), ("steep", ((NEAR + 1, 0),)), stair("steep", 400)):
            assert_raises(self, InvalidNet, None, with_rise, TWIN, 1, rise)


class MoveTests(unittest.TestCase):
    def test_moved(self):
        for net, wire in CASES[::5]:
            for right, up in ((0, 0), (2, -3), (-1, 5)):
                self.assertEqual(moved_net(net, wire, right, up), changed(net, wire, moved(net.wires[wire][2], right, up)))
        level, plumb = Net(2, ((0, 1, ("level", 3)),)), Net(2, ((0, 1, ("plumb", 3)),))
        self.assertEqual(moved_net(level, 0, SIXTY, NEAR - 3).wires, ((0, 1, ("level", NEAR)),))
        self.assertEqual(moved_net(plumb, 0, -NEAR - 3, -SIXTY).wires, ((0, 1, ("plumb", -NEAR)),))
        for right, up in ((0, NEAR - 2), (0, -NEAR - 4), (SIXTY, SIXTY), (0, -SIXTY)):
            assert_raises(self, InvalidNet, None, moved_net, level, 0, right, up)
        assert_raises(self, InvalidNet, None, moved_net, plumb, 0, NEAR, 0)
        assert_raises(self, InvalidNet, None, moved_net, TWIN, 0, NEAR, 0)

    def test_ranges_by_trying_all(self):
        none = 0
        for net, wire in CASES:
            rise = net.wires[wire][2]
            for function, moves in ((range_right, lambda d: moved(rise, d, 0)), (range_up, lambda d: moved(rise, 0, d))):
                told = function(net, wire)
                right = {d for d in range(-20, 21) if has_state_with(net, wire, moves(d))}
                if told == ():
                    self.assertEqual(right, set())
                    none += 1
                else:
                    self.assertEqual(right, {d for d in range(-20, 21) if is_inside(told, d)})
                    for end in told:
                        self.assertTrue(end is None or abs(end) < 19)
                    for end, far in zip(told, (-10 ** 17, 10 ** 17)):
                        if end is None:
                            self.assertIs(has_state_with(net, wire, moves(far)), True)
        self.assertGreater(none, 50)

    def test_far_ranges(self):
        net = Net(2, ((0, 1, ("plumb", NEAR)), (0, 1, ("plumb", NEAR)), (0, 1, ("plumb", NEAR))))
        self.assertEqual((range_right(net, 0), range_up(net, 0)), ((-3 * NEAR, -3 * NEAR), ()))
        net = Net(2, ((0, 1, ("level", NEAR)), (0, 1, ("level", -NEAR))))
        self.assertEqual((range_up(net, 0), range_up(net, 1), range_right(net, 0)), ((-2 * NEAR,) * 2, (2 * NEAR,) * 2, ()))
        self.assertEqual((range_right(TORN, 0), range_up(TORN, 2)), ((), ()))
        self.assertEqual(range_right(Net(2, ((0, 1, FUSE),)), 0), (-2, 2))
        self.assertEqual(range_up(Net(2, ((0, 1, DIODE),)), 0), (None, None))
        half = Net(2, ((0, 1, DIODE), (1, 0, DIODE)))
        self.assertEqual((range_right(half, 0), range_up(half, 0)), ((None, None), (0, None)))

    def test_one_way(self):
        compared = 0
        for net, wire in CASES[::2]:
            ahead = None
            for d in range(-4, 5):
                up = moved_net(net, wire, 0, d)
                if state_or_fight(up)[0] != "state":
                    continue
                currents, tensions = points_of(up, wire)
                if ahead is not None:
                    self.check_not_above(currents, ahead[0])
                    self.check_not_above(ahead[1], tensions)
                    compared += 1
                ahead = (currents, tensions)
        self.assertGreater(compared, 100)

    def check_not_above(self, one, other):
        """Neither end of the one range is above that of the other one."""
        self.assertTrue(one[0] is None or (other[0] is not None and one[0] <= other[0]))
        self.assertTrue(other[1] is None or (one[1] is not None and one[1] <= other[1]))


class KeepTests(unittest.TestCase):
    def test_does_keep(self):
        rises = small_rises()
        told = []
        for net, wire in CASES:
            answer = state_or_fight(net)
            if answer[0] != "state":
                continue
            state = answer[1:]
            pair = (state[0][wire], drops(net, state[1])[wire])
            for rise in rises[wire::4] + [net.wires[wire][2], ("level", pair[1]), ("plumb", pair[0])]:
                right = rests(changed(net, wire, rise), state)
                self.assertIs(does_keep(net, wire, rise, state), right)
                self.assertEqual(right, is_on(rise, *pair))
                told.append(right)
        self.assertGreater(min(told.count(True), told.count(False)), 100)

    def test_long_states_and_great_rises(self):
        far = 10 ** 99
        net = Net(2, ((0, 1, BATTERY), (0, 1, BATTERY)))
        state = ((far, -far), (far + 5, far))
        self.assertIs(does_keep(net, 0, ("steep", ((3, 5),)), state), True)
        self.assertIs(does_keep(net, 1, ("steep", ((3, 5),)), state), False)
        self.assertIs(does_keep(net, 0, stair("flat", 400), state), False)
        self.assertIs(does_keep(net, 0, ("level", 10 ** 18), state), False)

    def test_fixed(self):
        for net in SMALL:
            answer = state_or_fight(net)
            if answer[0] != "state":
                continue
            currents, heights = answer[1:]
            tensions = drops(net, heights)
            for shift in range(3):
                words = tuple(("level", "plumb", "as it is")[(k + shift) % 3] for k in range(len(net)))
                wanted = [{"level": ("level", tensions[k]), "plumb": ("plumb", currents[k]), "as it is": rise}[words[k]]
                          for k, (_, _, rise) in enumerate(net.wires)]
                told = fixed(net, (currents, heights), words)
                self.assertEqual(told, Net(net.knots, tuple((tail, head, rise) for (tail, head, _), rise in zip(net.wires, wanted))))
                self.assertIs(is_state(told, (currents, heights)), True)
        self.assertEqual(fixed(Net(3, ()), ((), (1, 2, 3)), ()), Net(3, ()))

    def test_no_such_net(self):
        net = Net(2, ((0, 1, BATTERY), (0, 1, BATTERY)))
        state = ((NEAR + 1, -NEAR - 1), (5, 0))
        self.assertEqual(fixed(net, state, ("level", "as it is")), net)
        for words in (("plumb", "level"), ("as it is", "plumb")):
            assert_raises(self, InvalidNet, None, fixed, net, state, words)
        assert_raises(self, InvalidNet, None, fixed, Net(2, ((0, 1, ("plumb", 0)),)), ((0,), (NEAR + 1, 0)), ("level",))
        self.assertEqual(fixed(net, ((NEAR, -NEAR), (5, 0)), ("plumb", "plumb")).wires[1], (0, 1, ("plumb", -NEAR)))


class GreatTests(unittest.TestCase):
    def test_great_nets(self):
        shown = 0
        for salt, firsts in itertools.product(range(3), (("flat", "steep"), ("steep",))):
            net = great_net(firsts, salt)
            for wire in (0, 14, 23):
                right, up = range_right(net, wire), range_up(net, wire)
                has = state_or_fight(net)[0] == "state"
                self.assertEqual(has, right != () and is_inside(right, 0))
                self.assertEqual(has, up != () and is_inside(up, 0))
                self.assertIs(has_state_with(net, wire, net.wires[wire][2]), has)
                if has:
                    points = points_of(net, wire)
                    self.assertTrue(points[0][0] == points[0][1] or points[1][0] == points[1][1])
                    shown += 1
        self.assertGreater(shown, 3)
        one = Net(2, ((0, 1, tall("steep", 40, 3)),))
        self.assertEqual(rest_of(Net(2, one.wires * 2), 0), ("rise", one.wires[0][2]))


class RefusalTests(unittest.TestCase):
    def test_refusals(self):
        state = ((0, 0), (4, 4))
        bad_wire = (NO_INTEGERS + [-1, 2, 10], InvalidNumber, "given")
        bad_rise = (NO_RISES, InvalidRise, None)
        bad_number = (NO_INTEGERS, InvalidNumber, "given")
        no_states = JUNK + [0, LONG, ((0, 0), (4, 9)), ((0, 1), (4, 4)), ((0, False), (4, 4)), [(0, 0), (4, 4)], ((0, 0), (4,))]
        bad_state = (no_states, InvalidState, None)
        no_words = [value for value in JUNK] + [("level",), ("level", "plumb", "level"), ["level", "plumb"], ("level", "Plumb"),
                                                ("level", None), ("level", "as it"), (["level"], "plumb"), ("level", True), 0, "as it is"]
        for function in (with_rise, has_state_with):
            assert_refusals(self, function, [TWIN, 0, BATTERY], {0: BAD_NET, 1: bad_wire, 2: bad_rise})
        for function in (rest_of, points_of, range_right, range_up):
            assert_refusals(self, function, [TWIN, 0], {0: BAD_NET, 1: bad_wire})
        assert_refusals(self, moved_net, [TWIN, 0, 0, 0], {0: BAD_NET, 1: bad_wire, 2: bad_number, 3: bad_number})
        assert_refusals(self, does_keep, [TWIN, 0, BATTERY, state], {0: BAD_NET, 1: bad_wire, 2: bad_rise, 3: bad_state})
        wrongs = {0: BAD_NET, 1: bad_state, 2: (no_words, InvalidOperation, None)}
        assert_refusals(self, fixed, [TWIN, state, ("level", "plumb")], wrongs)

    def test_what_comes_then_is_last(self):
        assert_raises(self, InvalidRise, None, with_rise, TWIN, 0, ("level", 10 ** 18 + 1))
        assert_raises(self, InvalidNumber, ("given", 4), with_rise, TORN, 4, None)
        assert_raises(self, InvalidNumber, ("given", LONG), moved_net, TWIN, 0, 10 ** 20, LONG)
        assert_raises(self, InvalidNumber, ("given", 4), points_of, TORN, 4)
        assert_raises(self, InvalidNumber, ("given", 0), rest_of, plain_net(2, ()), 0)
        assert_raises(self, InvalidState, None, does_keep, TORN, 0, BATTERY, ((0,) * 4, (0,) * 4))
        net = Net(2, ((0, 1, BATTERY), (0, 1, BATTERY)))
        assert_raises(self, InvalidOperation, None, fixed, net, ((NEAR + 1, -NEAR - 1), (5, 0)), ("plumb", "up"))


if __name__ == "__main__":
    unittest.main()
