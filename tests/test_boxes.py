"""Stage 12: boxes."""

import itertools
import unittest

from helpers import (
    BATTERY, DIODE, FUSE, LONG, NEAR, NETS, NO_INTEGERS, NO_NETS, SIXTY, STAIRS, assert_judges, assert_raises,
    assert_refusals, digits, dressed_nets, great_net, plain_net, rests, small_rises, stair, windows)
from risenets.ends.boxes import (
    alike_or_parted, battery, filled, is_alike_answer, is_box, is_had, joined, put_in, read_off)
from risenets.ends.seen import seen
from risenets.errors import InvalidBox, InvalidNet, InvalidNumber, InvalidState, Refused, TooMany
from risenets.net.nets import Net, drops, surplus
from risenets.rise.joins import moved, turned
from risenets.rise.rises import is_on
from risenets.state.states import is_state, state_or_fight
from test_nets import BAD_NET
from test_seen import LONG_ROW
from test_states import TORN

ROW = Net(3, ((0, 1, FUSE), (1, 2, DIODE)))
ROWBOX, LONE = (ROW, 0, 2), (Net(2, ((0, 1, ("steep", ((0, 0), (2, 0)))),)), 0, 1)
RING = Net(2, ((0, 1, ("steep", ((0, 0), (2, 0)))), (1, 0, ("plumb", 1))))
FOUGHT = (TORN, 0, 1)
BOXES = [(net, net.knots - 1, 0) for net in dressed_nets(NETS, 6) if net.knots > 1] + [ROWBOX, LONE, FOUGHT]
NO_BOXES = NO_NETS + [
    ROW, Net(1, ()), (ROW, 0), (ROW, 0, 1, 2), (ROW, 0, 0), (ROW, 0, 3), (ROW, -1, 0), (ROW, 0, True), (ROW, False, 1), [ROW, 0, 1],
    (0, ROW, 1), (None, 0, 1), (ROW, 0, None), (ROW, LONG, 0), (ROW, 0, -LONG), (Net(1, ()), 0, 0), (Net(1, ()), 0, 1), (ROW, "0", 1)]
BAD_BOX = (NO_BOXES, InvalidBox, None)


def lone(rise):
    """The box of one wire."""
    return (Net(2, ((0, 1, rise),)), 0, 1)


def rise_seen(box):
    """The rise that a box is seen as, None for a fight."""
    word, told = seen(*box)
    return told if word == "rise" else None


def joined_by_hand(box, outside):
    """The joined net, built from its words."""
    (net, start, goal), (other, first, second) = box, outside
    rest = [knot for knot in range(other.knots) if knot not in (first, second)]
    places = {first: start, second: goal, **{knot: net.knots + k for k, knot in enumerate(rest)}}
    wires = tuple((places[tail], places[head], rise) for tail, head, rise in other.wires)
    return Net(net.knots + len(rest), net.wires + wires), [places[knot] for knot in range(other.knots)]


def can_have(rise, outside, value):
    """Whether the outside can have the pair with one wire of this rise, by the words of [12.2]."""
    net, start, goal = outside
    currents, heights = value
    more = surplus(net, currents)
    if rise is None or more[goal] != -more[start] or any(more[k] for k in range(net.knots) if k not in (start, goal)):
        return False
    pairs = zip(net.wires, currents, drops(net, heights))
    return all(is_on(part, x, y) for (_, _, part), x, y in pairs) and is_on(rise, more[start], heights[start] - heights[goal])


class JoinedTests(unittest.TestCase):
    def test_is_box(self):
        assert_judges(self, is_box, (), BOXES[:9] + [(Net(2, ()), 1, 0)], NO_BOXES)

    def test_joined(self):
        outside = (Net(4, ((0, 3, FUSE), (1, 2, DIODE), (3, 1, STAIRS))), 3, 1)
        self.assertEqual(joined(ROWBOX, outside),
                         Net(5, ROW.wires + ((3, 0, FUSE), (2, 4, DIODE), (0, 2, STAIRS))))
        self.assertEqual(joined(ROWBOX, battery(7)), Net(3, ROW.wires + ((0, 2, ("level", 7)),)))
        for box, other in zip(BOXES, BOXES[5:]):
            if box[0].knots + other[0].knots <= 14:
                self.assertEqual(joined(box, other), joined_by_hand(box, other)[0])

    def test_too_many(self):
        for knots, other in ((12, 3), (8, 7)):
            assert_raises(self, TooMany, ("limit", 12), joined, (Net(knots, ()), 0, 1), (Net(other, ()), 2, 0))
        self.assertEqual(joined((Net(12, ()), 3, 1), (Net(2, ()), 0, 1)), Net(12, ()))
        self.assertEqual(joined((Net(7, ()), 3, 1), (Net(7, ()), 0, 1)).knots, 12)
        many = [(plain_net(2, ((0, 1),) * count), 0, 1) for count in (24, 12, 1, 13)]
        self.assertEqual(len(joined(many[1], many[1])), 24)
        assert_raises(self, TooMany, ("limit", 24), joined, many[0], many[2])
        assert_raises(self, TooMany, ("limit", 24), joined, many[1], many[3])
        full = (plain_net(12, ((0, 1),) * 24), 0, 1)
        assert_raises(self, TooMany, ("limit", 12), joined, full, (plain_net(3, ((0, 1),)), 0, 1))
        assert_raises(self, TooMany, ("limit", 24), joined, full, battery(1))

    def test_battery(self):
        for tension in (0, -3, NEAR, -NEAR):
            self.assertEqual(battery(tension), (Net(2, ((0, 1, ("level", tension)),)), 0, 1))
        assert_refusals(self, battery, [0], {0: (NO_INTEGERS + [NEAR + 1, -NEAR - 1, 10 ** 18, SIXTY], InvalidNumber, "given")})


class HadTests(unittest.TestCase):
    def test_had_is_what_one_wire_lets(self):
        outsides = [battery(0), battery(2), lone(FUSE), (Net(2, ((0, 1, DIODE), (1, 0, STAIRS))), 1, 0), (Net(2, ()), 0, 1),
                    (Net(3, ((0, 1, FUSE), (1, 2, BATTERY))), 0, 2), (Net(3, ((1, 0, FUSE),)), 0, 2)]
        had = 0
        for box in BOXES[::4] + [ROWBOX, FOUGHT]:
            rise = rise_seen(box)
            for outside in outsides:
                net = outside[0]
                for value in itertools.product(windows(len(net), 3), [row for row in windows(net.knots, 2) if row[0] in (0, 1)]):
                    right = can_have(rise, outside, value)
                    self.assertIs(is_had(box, outside, value), right, (box[0].wires, outside[0].wires, value))
                    had += right
        self.assertGreater(had, 200)

    def test_states_of_the_joined_net_lead_to_what_is_had(self):
        shown = 0
        for box, outside in itertools.product(BOXES[::3], BOXES[1::9]):
            if box[0].knots + outside[0].knots > 14:
                continue
            net, places = joined_by_hand(box, outside)
            told = state_or_fight(net)
            rise, other = rise_seen(box), rise_seen(outside)
            if told[0] != "state":
                continue
            value = (told[1][len(box[0]):], tuple(told[2][place] for place in places))
            self.assertIs(is_had(box, outside, value), True)
            self.assertTrue(rise is not None and other is not None)
            for wire in range(len(outside[0])):
                currents = tuple(n + (k == wire) for k, n in enumerate(value[0]))
                self.assertIs(is_had(box, outside, (currents, value[1])), can_have(rise, outside, (currents, value[1])))
            shown += 1
        self.assertGreater(shown, 20)

    def test_a_fight_lets_nothing(self):
        for outside in (battery(5), (Net(2, ()), 0, 1), LONE):
            net = outside[0]
            for value in itertools.product(windows(len(net), 3), windows(2, 5)):
                self.assertIs(is_had(FOUGHT, outside, value), False)

    def test_judge(self):
        right = [((-1,), (3, 3)), ((0,), (0, 0)), ((-2,), (-7, -7)), ((-1,), (10 ** 99, 10 ** 99))]
        wrong = [((1,), (3, 3)), ((-3,), (3, 3)), ((-1,), (3, 2)), ((-1,), (3,)), ((-1, 0), (3, 3)), ((), (3, 3)), [(-1,), (3, 3)],
                 ((False,), (3, 3)), ((-1,), (0, False)), ((-1,), [3, 3]), ([-1], (3, 3)), ((-1,), (3, 3), 0), ((-1,), (True, 1)),
                 ((None,), (3, 3)), ((-10 ** 99,), (3, 3)), ((-1,), (10 ** 99, 3)), ((-1,),)]
        assert_judges(self, is_had, (ROWBOX, battery(0)), right, wrong)
        right = [((-n,), (5, 0)) for n in (0, 7, 10 ** 99)]
        assert_judges(self, is_had, ((Net(2, ((0, 1, BATTERY),)), 0, 1), battery(5)), right, wrong)
        many = (plain_net(2, ((0, 1),) * 24), 0, 1)
        self.assertIs(is_had(many, many, ((0,) * 24, (4, 4))), True)
        self.assertIs(is_had(many, many, ((1,) + (0,) * 23, (4, 4))), False)
        self.assertIs(is_had((LONG_ROW, 0, 11), battery(0), ((10 ** 6,), (0, 0))), False)


class AlikeTests(unittest.TestCase):
    def test_alike_or_parted(self):
        words = []
        for one, other in itertools.product(BOXES[::3] + [FOUGHT], BOXES[::4] + [FOUGHT]):
            rises = [rise_seen(one), rise_seen(other)]
            told = alike_or_parted(one, other)
            self.assertIs(is_alike_answer(one, other, told), True)
            self.assertEqual(told[0], "alike" if rises[0] == rises[1] else "parted")
            self.assertIs(is_alike_answer(one, other, ("alike",)), told[0] == "alike")
            words.append(told[0])
            if told[0] == "parted":
                _, which, *point = told
                self.assertEqual([rise is not None and is_on(rise, *point) for rise in rises], [which == 0, which == 1])
                self.check_battery((one, other), which, *point)
        self.assertGreater(min(words.count("alike"), words.count("parted")), 15)

    def check_battery(self, boxes, which, current, tension):
        """A battery can have the opposite of the current with just this one of both boxes."""
        if abs(tension) <= NEAR:
            value = ((-current,), (tension, 0))
            self.assertEqual([is_had(box, battery(tension), value) for box in boxes], [which == 0, which == 1])

    def test_judge_takes_every_point(self):
        for one, other in zip(BOXES[::2], BOXES[1::2]):
            rises = [rise_seen(one), rise_seen(other)]
            for point in itertools.product(range(-3, 4), repeat=2):
                found = [rise is not None and is_on(rise, *point) for rise in rises]
                for which in (0, 1):
                    right = found[which] and not found[1 - which]
                    self.assertIs(is_alike_answer(one, other, ("parted", which, *point)), right)

    def test_alike_to_what_they_are_seen_as(self):
        for box in BOXES:
            rise = rise_seen(box)
            if rise is not None:
                self.assertEqual(alike_or_parted(box, lone(rise)), ("alike",))
                self.assertEqual(alike_or_parted((box[0], box[2], box[1]), lone(turned(rise))), ("alike",))
            else:
                self.assertEqual(alike_or_parted(box, FOUGHT), ("alike",))

    def test_judge(self):
        back = (ROW, 2, 0)
        right = [("parted", 0, 1, 0), ("parted", 0, 0, -4), ("parted", 1, 0, 10 ** 99), ("parted", 1, -2, -10 ** 99)]
        wrong = [("parted", 0, 0, 0), ("parted", 1, 1, 0), ("parted", 0, 5, 0), ("parted", 0, True, 0), ("parted", False, 1, 0),
                 ("parted", 0, 1, False), ("parted", 2, 1, 0), ("parted", -1, 1, 0), ("parted", 0, 1), ("parted", 0, 1, 0, 0),
                 ["parted", 0, 1, 0], ("Parted", 0, 1, 0), ("parted", None, 1, 0), ("parted", 0, None, 0), ("alike",), "alike", ("Alike",)]
        assert_judges(self, is_alike_answer, (ROWBOX, back), right, wrong)
        assert_judges(self, is_alike_answer, (ROWBOX, LONE), [("alike",)], wrong[:-3] + ["alike", ["alike"], ("alike", 0), ("like",)])
        assert_judges(self, is_alike_answer, (FOUGHT, FOUGHT), [("alike",)], right + wrong[:-3])

    def test_one_fight(self):
        told = alike_or_parted(FOUGHT, ROWBOX)
        self.assertEqual(told[:2], ("parted", 1))
        self.assertEqual(alike_or_parted(ROWBOX, FOUGHT)[:2], ("parted", 0))
        self.assertIs(is_alike_answer(FOUGHT, ROWBOX, ("alike",)), False)

    def test_more_corners_than_a_rise_can_have(self):
        first, second = (LONG_ROW, 0, 11), (Net(12, LONG_ROW.wires[::-1]), 0, 11)
        assert_raises(self, TooMany, ("limit", 400), seen, *first)
        self.assertEqual(alike_or_parted(first, second), ("alike",))
        last = LONG_ROW.wires[10]
        corners = last[2][1]
        for changed in (corners[:-1] + ((corners[-1][0], corners[-1][1] + 1),), corners[:1] + ((corners[1][0], corners[1][1] + 1),) + tuple(
                (x, y + 1) for x, y in corners[2:])):
            other = (Net(12, LONG_ROW.wires[:10] + ((10, 11, ("flat", changed)),)), 0, 11)
            told = alike_or_parted(first, other)
            self.assertEqual(told[0], "parted")
            self.assertIs(is_alike_answer(first, other, told), True)
            self.assertIs(is_alike_answer(first, other, ("alike",)), False)
            self.check_battery((first, other), *told[1:])
        self.assertEqual(alike_or_parted(first, FOUGHT)[:2], ("parted", 0))
        self.assertIs(is_alike_answer(first, FOUGHT, alike_or_parted(first, FOUGHT)), True)


class PutInTests(unittest.TestCase):
    def test_put_in(self):
        net = Net(4, ((0, 1, FUSE), (3, 1, DIODE), (2, 0, STAIRS)))
        box = (Net(4, ((0, 1, BATTERY), (2, 3, DIODE), (3, 0, FUSE))), 2, 0)
        self.assertEqual(put_in(net, 1, box), Net(6, (net.wires[0], net.wires[2], (1, 4, BATTERY), (3, 5, DIODE), (5, 1, FUSE))))
        self.assertEqual(put_in(net, 0, (Net(2, ()), 1, 0)), Net(4, net.wires[1:]))
        self.assertEqual(put_in(RING, 0, LONE), Net(2, (RING.wires[1], RING.wires[0])))

    def test_states_lead_there_and_back(self):
        shown = 0
        for at, box in enumerate(BOXES):
            rise = rise_seen(box)
            if rise is None or box[0].knots > 10:
                continue
            for other in small_rises()[at % 5::9]:
                net = Net(4, ((2, 0, FUSE), (1, 3, rise), (0, 1, DIODE), (3, 2, other), (1, 3, STAIRS)))
                told = state_or_fight(net)
                there = put_in(net, 1, box)
                self.assertEqual(told[0] == "state", state_or_fight(there)[0] == "state")
                if told[0] != "state":
                    continue
                state = filled(net, 1, box, told[1:])
                self.assertTrue(rests(there, state))
                self.assertEqual(state[0][:4], told[1][:1] + told[1][2:])
                self.assertEqual(state[1][:4], told[2])
                self.assertEqual(read_off(net, 1, box, state), told[1:])
                answer = state_or_fight(there)
                self.assertTrue(rests(net, read_off(net, 1, box, answer[1:])))
                shown += 1
        self.assertGreater(shown, 60)

    def test_boxes_in_boxes(self):
        net, state = RING, ((1, 1), (4, 4))
        for _ in range(5):
            state = filled(net, 0, ROWBOX, state)
            net = put_in(net, 0, ROWBOX)
            net, order = Net(net.knots, net.wires[1:2] + net.wires[:1] + net.wires[2:]), [1, 0] + list(range(2, len(net)))
            state = (tuple(state[0][k] for k in order), state[1])
            self.assertIs(is_state(net, state), True)
            box = (Net(net.knots, net.wires[:1] + net.wires[2:]), 0, 1)
            self.assertEqual(alike_or_parted(box, LONE), ("alike",))
            net = Net(net.knots, ((net.wires[0][0], net.wires[0][1], ("steep", ((0, 0), (2, 0)))),) + net.wires[1:])
        self.assertEqual(net.knots, 7)

    def test_long_states(self):
        far = 10 ** 99
        net = Net(2, ((0, 1, ("level", 3)), (0, 1, ("level", 3))))
        box = (Net(3, ((0, 1, ("level", 1)), (1, 2, ("level", 2)))), 0, 2)
        state = filled(net, 0, box, ((far, -far), (far + 3, far)))
        self.assertEqual(state, ((-far, far, far), (far + 3, far, far + 2)))
        self.assertEqual(read_off(net, 0, box, state), ((far, -far), (far + 3, far)))
        gap = (Net(4, ((2, 3, FUSE),)), 0, 1)
        state = filled(Net(2, ((0, 1, ("plumb", 0)),)), 0, gap, ((0,), (far, 5)))
        self.assertEqual((state[0], state[1][:2], state[1][2] - state[1][3]), ((0,), (far, 5), 0))

    def test_off_the_rise(self):
        net = Net(2, ((0, 1, FUSE), (1, 0, ("level", 0))))
        assert_raises(self, Refused, ("reason", ("point",)), filled, net, 0, ROWBOX, ((-1, -1), (0, 0)))
        self.assertEqual(filled(net, 0, ROWBOX, ((1, 1), (0, 0))), ((1, 1, 1), (0, 0, 0)))
        assert_raises(self, Refused, ("reason", ("point",)), filled, net, 0, FOUGHT, ((1, 1), (0, 0)))
        net = Net(2, ((0, 1, ("steep", ((1, 0), (2, 0)))), (1, 0, ("level", 0))))
        assert_raises(self, Refused, ("reason", ("point",)), read_off, net, 0, ROWBOX, ((0, 0, 0), (0, 0, 0)))
        self.assertEqual(read_off(net, 0, ROWBOX, ((1, 1, 1), (0, 0, 0))), ((1, 1), (0, 0)))

    def test_too_many(self):
        state = ((1, 1), (4, 4))
        wide, many = (Net(12, ()), 0, 1), (plain_net(2, ((0, 1),) * 24), 0, 1)
        for function, more in ((put_in, ()), (filled, (state,)), (filled, (None,)), (read_off, (None,))):
            self.assertEqual(put_in(RING, 0, wide).knots, 12)
            assert_raises(self, TooMany, ("limit", 24), function, RING, 0, many, *more)
            three = Net(3, RING.wires)
            assert_raises(self, TooMany, ("limit", 12), function, three, 0, wide, *more)
            assert_raises(self, TooMany, ("limit", 12), function, three, 0, (plain_net(12, ((0, 1),) * 24), 0, 1), *more)
        self.assertEqual(len(put_in(RING, 0, (plain_net(2, ((0, 1),) * 23), 0, 1))), 24)

    def test_great_nets(self):
        net = great_net(("flat", "steep"), 1)
        told = state_or_fight(net)
        self.assertEqual(told[0], "state")
        for wire in (0, 12, 23):
            box = lone(net.wires[wire][2])
            state = filled(net, wire, box, told[1:])
            self.assertEqual(read_off(net, wire, box, state), told[1:])
            self.assertLessEqual(digits(state), 60)
        half = Net(7, tuple((k, (k + 1) % 7, stair("steep", 40, (0, 0), NEAR // 40)) for k in range(7)))
        other = (Net(7, half.wires), 2, 5)
        told = state_or_fight(half)
        pair = (told[1][3], told[2][3] - told[2][4])
        if is_on(rise_seen(other), *pair):
            self.assertIs(is_state(put_in(half, 3, other), filled(half, 3, other, told[1:])), True)


class RefusalTests(unittest.TestCase):
    def test_refusals(self):
        state, there = ((1, 1), (4, 4)), ((1, 1, 1), (4, 4, 4))
        bad_wire = (NO_INTEGERS + [-1, 2, 10], InvalidNumber, "given")
        no_states = NO_INTEGERS + [((1, 2), (4, 4)), ((1, 1), (4,)), ((True, 1), (4, 4)), [(1, 1), (4, 4)], ((3, 3), (4, 4)), 0]
        for function in (joined, alike_or_parted):
            assert_refusals(self, function, [ROWBOX, LONE], {0: BAD_BOX, 1: BAD_BOX})
        for function in (is_had, is_alike_answer):
            assert_refusals(self, function, [ROWBOX, LONE, None], {0: BAD_BOX, 1: BAD_BOX})
        assert_refusals(self, put_in, [RING, 0, ROWBOX], {0: BAD_NET, 1: bad_wire, 2: BAD_BOX})
        bad_state = (no_states + [there], InvalidState, None)
        assert_refusals(self, filled, [RING, 0, ROWBOX, state], {0: BAD_NET, 1: bad_wire, 2: BAD_BOX, 3: bad_state})
        bad_state = (no_states + [state], InvalidState, None)
        assert_refusals(self, read_off, [RING, 0, ROWBOX, there], {0: BAD_NET, 1: bad_wire, 2: BAD_BOX, 3: bad_state})

    def test_sequence(self):
        assert_raises(self, InvalidNet, None, put_in, None, 9, None)
        assert_raises(self, InvalidNumber, ("given", 0), put_in, Net(2, ()), 0, None)
        assert_raises(self, InvalidState, None, filled, RING, 0, FOUGHT, ((1, 1), (4, 5)))
        self.assertEqual(alike_or_parted((Net(2, ()), 0, 1), lone(("plumb", 0))), ("alike",))
        self.assertEqual(alike_or_parted(lone(BATTERY), lone(moved(BATTERY, 4, 0))), ("alike",))


if __name__ == "__main__":
    unittest.main()
