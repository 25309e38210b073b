"""Stage 11: what two ends see."""

import itertools
import unittest

from helpers import (
    BATTERY, DIODE, FUSE, JUNK, LONG, NEAR, NETS, NO_INTEGERS, SIXTY, STAIRS, STEPS, all_cuts, all_fights, all_ways,
    assert_judges, assert_raises, assert_refusals, digits, dressed_nets, great_net, plain_net, rests, small_rises, stair, tall,
    windows)
from risenets.ends.seen import is_seen, is_seen_paper, is_with, seen, seen_paper
from risenets.errors import InvalidNumber, InvalidOperation, Refused, TooMany
from risenets.net.nets import Net, cut_wires, drops, surplus
from risenets.rise.joins import beside, in_row, meeting, moved, turned
from risenets.rise.rises import currents_at, is_on, is_rise, pieces, tensions_at
from risenets.state.states import state_or_fight
from test_nets import BAD_NET
from test_states import TORN

PAIR = Net(2, ((0, 1, FUSE), (0, 1, FUSE), (1, 0, ("plumb", 3))))
ROW = Net(3, ((0, 1, FUSE), (1, 2, DIODE)))
SMALL = [net for net in dressed_nets(NETS, 10) if net.knots > 1]
CASES = [(net, start, goal) for net in SMALL for start, goal in ((0, 1), (net.knots - 1, 0))]
# Stairs in a row, of currents that are all unlike: seen with 480 corners.
LONG_ROW = Net(12, tuple((k, k + 1, stair("flat", 40, (-11 * k, k), 1000 + 7 * k)) for k in range(11)))


def end_fights(net, start, goal):
    """All fights that stand whatever is put in at the start and taken out at the goal."""
    return [(word, told) for word, told in all_fights(net) if word == "loop" or (start in told) == (goal in told)]


def with_wire(net, tail, head, rise):
    """The net with a further wire."""
    return Net(net.knots, net.wires + ((tail, head, rise),))


def is_state_with(net, start, goal, current, state):
    """Whether the pair of rows is a state with this put-in."""
    feeds = [0] * net.knots
    feeds[start], feeds[goal] = current, -current
    return rests(net, state, feeds)


def shows_end(net, source, sink, kind, state, paper):
    """Whether the paper shows that what is seen goes on without end behind the state."""
    if kind == "flat":
        tensions = drops(net, state[1])
        if paper not in all_ways(net, source, sink):
            return False
        return all(currents_at(net.wires[k][2], tensions[k])[1 if way == 1 else 0] is None for k, way in paper)
    if paper not in all_cuts(net) or source not in paper or sink in paper:
        return False
    leaving, entering = cut_wires(net, paper)
    told = [tensions_at(rise, current) for (_, _, rise), current in zip(net.wires, state[0])]
    return all(told[k][1] is None for k in leaving) and all(told[k][0] is None for k in entering)


def is_right_paper(net, start, goal, value):
    """Whether the value is a paper by the words of [11.2]."""
    if len(value) == 2:
        return value in end_fights(net, start, goal)
    _, rise, states, low, high = value
    corners = rise[1] if rise[0] in ("flat", "steep") else None
    if len(states) != (len(corners) if corners else 1):
        return False
    for k, state in enumerate(states):
        push = state[1][start] - state[1][goal]
        goes = sum(state[0][wire] * ((tail == start) - (head == start)) for wire, (tail, head, _) in enumerate(net.wires))
        if not is_state_with(net, start, goal, goes, state):
            return False
        if corners and (goes, push) != corners[k] or not corners and not is_on(rise, goes, push):
            return False
    row = pieces(rise)
    return (shows_end(net, goal, start, row[0][0], states[0], low)
            and shows_end(net, start, goal, row[-1][0], states[-1], high))


class OneRiseTests(unittest.TestCase):
    def test_rise_or_fight(self):
        words = []
        for net, start, goal in CASES:
            told = seen(net, start, goal)
            fights = end_fights(net, start, goal)
            words.append(told[0])
            self.assertIs(is_seen(net, start, goal, told), True)
            if fights:
                self.assertIn(told, fights)
            else:
                self.assertEqual((told[0], is_rise(told[1])), ("rise", True))
            for fight in all_fights(net):
                self.assertIs(is_seen(net, start, goal, fight), fight in fights)
        self.assertGreater(min(words.count("rise"), words.count("cut") + words.count("loop")), 40)

    def test_by_trying_all(self):
        tried = 0
        for net, start, goal in CASES:
            if len(net) > 2 or net.knots > 3 or seen(net, start, goal)[0] != "rise":
                continue
            rise = seen(net, start, goal)[1]
            found = set()
            heights = [row for row in windows(net.knots, 7) if row[goal] == 0 and abs(row[start]) <= 3]
            rows = list(windows(len(net), 9))
            for current in range(-3, 4):
                feeds = [0] * net.knots
                feeds[start], feeds[goal] = current, -current
                right = [row for row in rows if surplus(net, row) == tuple(-feed for feed in feeds)]
                found |= {(current, state[1][start]) for state in itertools.product(right, heights) if rests(net, state, feeds)}
            for point in itertools.product(range(-3, 4), repeat=2):
                self.assertEqual(point in found, is_on(rise, *point), (net.wires, start, goal, rise, point))
            tried += 1
        self.assertGreater(tried, 10)

    def test_further_wire(self):
        rises = small_rises()[::4]
        for at, (net, start, goal) in enumerate(CASES):
            told = seen(net, start, goal)
            for rise in rises[at % 3::3]:
                answer = state_or_fight(with_wire(net, start, goal, rise))
                if told[0] != "rise":
                    self.assertNotEqual(answer[0], "state")
                    continue
                met = meeting(rise, told[1])
                self.assertEqual(answer[0] == "state", met[0] == "met")
                if answer[0] == "state":
                    current, push = answer[1][-1], answer[2][start] - answer[2][goal]
                    self.assertTrue(is_on(rise, current, push) and is_on(told[1], -current, push))
                    self.assertIs(is_with(net, start, goal, -current, (answer[1][:-1], answer[2])), True)

    def test_single_wires(self):
        for rise in small_rises():
            net = Net(2, ((0, 1, rise),))
            self.assertEqual(seen(net, 0, 1), ("rise", rise))
            self.assertEqual(seen(net, 1, 0), ("rise", turned(rise)))

    def test_ends_exchanged(self):
        for net, start, goal in CASES:
            told, back = seen(net, start, goal), seen(net, goal, start)
            self.assertEqual(told[0] == "rise", back[0] == "rise")
            if told[0] == "rise":
                self.assertEqual(back[1], turned(told[1]))

    def test_beside_and_in_a_row(self):
        fights = 0
        for one, other in zip(SMALL[::3], SMALL[1::3] + SMALL[2::3]):
            if one.knots + other.knots - 2 > 12 or len(one) + len(other) > 24:
                continue
            first, second = seen(one, 0, 1), seen(other, 0, 1)
            for join, shared in ((beside, {0: 0, 1: 1}), (in_row, {0: 1})):
                places = dict(shared)
                for knot in range(other.knots):
                    if knot not in places:
                        places[knot] = one.knots + len(places) - len(shared)
                wires = tuple((places[tail], places[head], rise) for tail, head, rise in other.wires)
                both = Net(one.knots + other.knots - len(shared), one.wires + wires)
                told = seen(both, 0, places[1])
                if first[0] != "rise" or second[0] != "rise":
                    self.assertNotEqual(told[0], "rise")
                    continue
                try:
                    wanted = ("rise", join(first[1], second[1]))
                except Refused:
                    fights += 1
                    self.assertNotEqual(told[0], "rise")
                    continue
                self.assertEqual(told, wanted)
        self.assertGreater(fights, 3)

    def test_ladders(self):
        rises = small_rises()
        for salt in range(40):
            chosen = [rises[(salt * 7 + k * k * 5 + k) % len(rises)] for k in range(8)]
            net, rise = Net(2, ((0, 1, chosen[0]),)), chosen[0]
            for k, more in enumerate(chosen[1:]):
                try:
                    rise = in_row(rise, more) if k % 2 else beside(rise, more)
                except Refused:
                    break
                end = net.knots - 1
                wire = (end, net.knots, more) if k % 2 else (0, end, more)
                net = Net(net.knots + k % 2, net.wires + (wire,))
                self.assertEqual(seen(net, 0, net.knots - 1), ("rise", rise))

    def test_no_wires_and_loose_knots(self):
        self.assertEqual(seen(Net(2, ()), 1, 0), ("rise", ("plumb", 0)))
        self.assertEqual(seen(Net(5, ((0, 1, BATTERY), (3, 4, FUSE))), 0, 3), ("rise", ("plumb", 0)))
        self.assertEqual(seen(Net(5, ((0, 1, BATTERY), (3, 4, FUSE))), 0, 1), ("rise", ("level", 5)))
        self.assertEqual(seen(TORN, 0, 1)[0], "loop")
        self.assertIn(seen(Net(4, TORN.wires[1:]), 0, 1), [("cut", (2,)), ("cut", (0, 1, 2))])
        self.assertEqual(seen(Net(4, TORN.wires[2:]), 2, 3), ("rise", ("steep", ((1, 0), (5, 0)))))
        self.assertEqual(seen(Net(4, ((2, 3, ("plumb", 3)), (3, 2, ("plumb", 1)))), 2, 3), ("rise", ("plumb", 2)))

    def test_a_cut_between_the_ends_is_no_fight(self):
        net = Net(2, ((0, 1, ("plumb", 3)),))
        self.assertEqual((all_fights(net), seen(net, 0, 1)), ([("cut", (0,))], ("rise", ("plumb", 3))))
        self.assertIs(is_seen(net, 0, 1, ("cut", (0,))), False)
        self.assertIs(is_seen_paper(net, 0, 1, ("cut", (0,))), False)

    def test_level_and_plumb(self):
        net = Net(3, ((0, 1, BATTERY), (1, 2, FUSE), (0, 2, ("level", 3))))
        self.assertEqual(seen(net, 0, 2), ("rise", ("level", 3)))
        net = Net(3, ((0, 1, ("plumb", 1)), (1, 2, FUSE)))
        self.assertEqual(seen(net, 0, 2), ("rise", ("plumb", 1)))
        for net, start, goal in ((Net(2, ((0, 1, ("level", 3)), (1, 0, STEPS))), 0, 1), (Net(2, ((0, 1, ("plumb", -2)),)), 1, 0)):
            told = seen_paper(net, start, goal)
            self.assertEqual(len(told[2]), 1)
            self.assertTrue(is_right_paper(net, start, goal, told))


class JudgeTests(unittest.TestCase):
    def test_is_with(self):
        for net in [net for net in SMALL if len(net) <= 2 and net.knots <= 3][:12]:
            for current in (-1, 0, 2):
                for state in itertools.product(windows(len(net), 2), windows(net.knots, 2)):
                    right = is_state_with(net, 0, 1, current, state)
                    self.assertIs(is_with(net, 0, 1, current, state), right)
        right = [((1, 1), (0, 0, 0)), ((1, 1), (10 ** 99,) * 3)]
        wrong = [((0, 0), (0, 0, 0)), ((True, 1), (0, 0, 0)), ((1, 1), (0, 0, False)), [(1, 1), (0, 0, 0)], ((1, 1), (0, 0)),
                 ((1, 1), (0, 0, 1)), ((1, 1), (0, 0, 0), 0), ((1,), (0, 0, 0)), ([1, 1], (0, 0, 0)), ((1, 1),), ((2, 1), (0, 0, 0))]
        assert_judges(self, is_with, (ROW, 0, 2, 1), right, wrong)
        assert_judges(self, is_with, (Net(2, ((0, 1, BATTERY),)), 0, 1, SIXTY), [((SIXTY,), (5, 0))], [((SIXTY,), (0, 5))])

    def test_is_seen(self):
        wrong = [("rise", ("steep", ((0, 0), (3, 0)))), ("rise", ("flat", ((0, 0), (2, 0)))), ("rise", ("plumb", 0)), ("rise", None),
                 ("rise", ("steep", ((0, False), (2, 0)))), ("rise", ("steep", [(0, 0), (2, 0)])), ("Rise", ("steep", ((0, 0), (2, 0)))),
                 ["rise", ("steep", ((0, 0), (2, 0)))], ("rise", ("steep", ((0, 0), (2, 0))), 0), ("steep", ((0, 0), (2, 0))),
                 ("cut", (0,)), ("cut", (0, 2)), ("loop", ()), ("rise", ("steep", ((-2, 0), (0, 0))))]
        assert_judges(self, is_seen, (ROW, 0, 2), [("rise", ("steep", ((0, 0), (2, 0))))], wrong)
        net = Net(3, ((0, 1, ("plumb", 1)), (0, 2, FUSE)))
        wrong += [("cut", (1,)), ("cut", (2, 0)), ("cut", [0, 2]), ("cut", (False, 2)), ("cut", (0,)), ("rise", ("plumb", 1)), (0, 2)]
        wrong.remove(("cut", (0, 2)))
        for judge in (is_seen, is_seen_paper):
            assert_judges(self, judge, (net, 0, 2), [("cut", (0, 2))], wrong)

    def test_papers(self):
        kinds = []
        for net, start, goal in CASES:
            told = seen_paper(net, start, goal)
            self.assertEqual(told[:2], seen(net, start, goal))
            self.assertTrue(is_right_paper(net, start, goal, told), (net.wires, start, goal, told))
            self.assertIs(is_seen_paper(net, start, goal, told), True)
            if told[0] == "rise":
                row = pieces(told[1])
                kinds.append((row[0][0], row[-1][0], len(row) > 1))
        self.assertEqual(len(set(kinds)), 6)

    def test_wrong_papers(self):
        shown = 0
        for net, start, goal in CASES:
            told = seen_paper(net, start, goal)
            if told[0] != "rise" or net.knots > 5:
                continue
            _, rise, states, low, high = told
            papers = all_cuts(net) + all_ways(net, start, goal) + all_ways(net, goal, start)
            values = [("rise", rise, states, paper, high) for paper in papers] + [("rise", rise, states, low, paper) for paper in papers]
            values += [("rise", other, states, low, high) for other in small_rises()[::5] + [moved(rise, 1, 0), moved(rise, 0, 1)]]
            values += [("rise", rise, states[::-1], low, high), ("rise", rise, states + states[:1], low, high)]
            values += [("rise", rise, states[1:], low, high)]
            for k, (currents, heights) in enumerate(states):
                higher = (currents, tuple(height + 3 for height in heights))
                steeper = (currents, (heights[0] + 1, *heights[1:]))
                more = ((currents[0] + 1, *currents[1:]) if currents else (1,), heights)
                values += [("rise", rise, states[:k] + (state,) + states[k + 1:], low, high) for state in (higher, steeper, more)]
            for value in values:
                try:
                    right = is_right_paper(net, start, goal, value)
                except ValueError:
                    # Rows of other lengths are none of the net.
                    right = False
                self.assertIs(is_seen_paper(net, start, goal, value), right, (net.wires, start, goal, value))
                shown += right
        self.assertGreater(shown, 100)

    def test_judge_of_papers(self):
        rise, states = ("steep", ((0, 0), (2, 0))), (((0, 0), (0, 0, 0)), ((2, 2), (0, 0, 0)))
        right = [("rise", rise, states, (2,), (0,)), ("rise", rise, (((0, 0), (10 ** 99,) * 3), states[1]), (2,), (0,))]
        wrong = [("rise", rise, states, (0,), (2,)), ("rise", rise, states, (2,), (0, 1)), ("rise", rise, states, (2,), [0]),
                 ("rise", rise, states, (1, 2), (0,)), ("rise", rise, states[:1], (2,), (0,)), ("rise", rise, states, (2,)),
                 ("rise", rise, list(states), (2,), (0,)), ("rise", rise, states, (2,), (False,)), ("rise", rise, None, (2,), (0,)),
                 ("rise", rise, (((0, False), (0, 0, 0)), states[1]), (2,), (0,)), ("rise", rise, states, (2,), (0,), 0),
                 ("rise", ("steep", ((0, 0), (1, 0))), (states[0], ((1, 1), (0, 0, 0))), (2,), (0,)), ("rise", rise, states, (2,), None),
                 ("rise", ("flat", ((0, 0), (2, 0))), states, (2,), (0,)), ("rise", None, states, (2,), (0,)), ("rise", rise),
                 ["rise", rise, states, (2,), (0,)], ("Rise", rise, states, (2,), (0,)), ("rise", rise, states, (), ()),
                 ("rise", rise, states, ((1, -1), (0, -1)), (0,)), ("rise", rise, (None, None), (2,), (0,)), ("cut", (0,))]
        assert_judges(self, is_seen_paper, (ROW, 0, 2), right, wrong)
        straight = Net(2, ((0, 1, BATTERY),))
        right = [("rise", BATTERY, (((n,), (m + 5, m)),), ((0, -1),), ((0, 1),)) for n in (0, -7, 10 ** 99) for m in (0, 10 ** 99)]
        wrong = [("rise", BATTERY, (((0,), (4, 0)),), ((0, -1),), ((0, 1),)), ("rise", BATTERY, (((0,), (5, 0)),), ((0, 1),), ((0, -1),)),
                 ("rise", BATTERY, (), ((0, -1),), ((0, 1),)), ("rise", BATTERY, (((0,), (5, 0)),) * 2, ((0, -1),), ((0, 1),)),
                 ("rise", BATTERY, (((0,), (5, 0)),), (), ()), ("rise", BATTERY, (((0,), (5, 0)),), (1,), (0,)),
                 ("rise", BATTERY, (((False,), (5, 0)),), ((0, -1),), ((0, 1),)), ("rise", ("plumb", 0), (((0,), (5, 0)),), (1,), (0,)),
                 ("rise", BATTERY, (((0,), (5, 0)),), ((0, -1),), ((0, True),)), ("rise", BATTERY, ((0, 5),), ((0, -1),), ((0, 1),)),
                 ("rise", BATTERY, (((0,), (5, 0)),), ((0, -1), (0, 1), (0, -1)), ((0, 1),)), ("rise", ("level", 4), (((0,), (5, 0)),), (), ())]
        wrong += [("rise", BATTERY, (state,), ((0, -1),), ((0, 1),)) for state in (None, (), 0, "ab", [(0,), (5, 0)], ((0,),), (None, (5, 0)),
                                                                                   ((0,), None), ((0, 0), (5, 0)), {}, ((0,), (5, 0), 0))]
        assert_judges(self, is_seen_paper, (straight, 0, 1), right, wrong)
        plumb = Net(2, ((0, 1, ("plumb", 2)),))
        right = [("rise", ("plumb", 2), (((2,), (n, 0)),), (1,), (0,)) for n in (0, -7, 10 ** 99)]
        wrong = [("rise", ("plumb", 2), (((3,), (0, 0)),), (1,), (0,)), ("rise", ("plumb", 1), (((2,), (0, 0)),), (1,), (0,)),
                 ("rise", ("plumb", 2), (((2,), (0, 0)),), (0,), (1,)), ("rise", ("plumb", 2), (((2,), (0,)),), (1,), (0,))]
        assert_judges(self, is_seen_paper, (plumb, 0, 1), right, wrong)


class GreatTests(unittest.TestCase):
    def test_too_many_corners(self):
        for net, start, goal in ((LONG_ROW, 0, 11), (LONG_ROW, 11, 0)):
            for function in (seen, seen_paper):
                assert_raises(self, TooMany, ("limit", 400), function, net, start, goal)
            self.assertIs(is_seen(net, start, goal, ("rise", ("level", 0))), False)
            self.assertIs(is_seen(net, start, goal, ("cut", (0,))), False)
            self.assertIs(is_seen_paper(net, start, goal, ("cut", (0, 11))), False)
        part = Net(12, LONG_ROW.wires[:10])
        told = seen_paper(part, 0, 10)
        self.assertEqual(len(told[1][1]), 400)
        self.assertIs(is_seen_paper(part, 0, 10, told), True)
        more = ((10, 11, ("steep", ((-10 ** 6 + 5, 0),))),)
        assert_raises(self, TooMany, ("limit", 400), seen, Net(12, part.wires + more), 0, 11)

    def test_rows_of_great_stairs(self):
        rise = LONG_ROW.wires[0][2]
        for _, _, other in LONG_ROW.wires[1:10]:
            rise = in_row(rise, other)
        self.assertEqual(seen(Net(11, LONG_ROW.wires[:10]), 0, 10), ("rise", rise))
        rise, wires = tall("steep", 40, 1), [(0, 1, tall("steep", 40, 1))]
        for salt in range(2, 11):
            wires.append((0, 1, tall("steep", 40, salt)))
            try:
                rise = beside(rise, wires[-1][2])
            except TooMany:
                break
            self.assertEqual(seen(Net(2, tuple(wires)), 0, 1), ("rise", rise))
        self.assertGreater(len(wires), 8)

    def test_great_integers(self):
        net = Net(2, tuple((0, 1, ("steep", ((-NEAR, -NEAR), (NEAR, -NEAR), (NEAR, NEAR)))) for _ in range(24)))
        wanted = ("steep", ((-24 * NEAR, -NEAR), (24 * NEAR, -NEAR), (24 * NEAR, NEAR)))
        self.assertEqual(seen(net, 0, 1), ("rise", wanted))
        net = Net(12, tuple((k, k + 1, ("level", NEAR)) for k in range(11)))
        self.assertEqual(seen(net, 0, 11), ("rise", ("level", 11 * NEAR)))
        self.assertEqual(seen(net, 11, 0), ("rise", ("level", -11 * NEAR)))

    def test_great_nets(self):
        words = []
        for salt, firsts in itertools.product(range(4), (("flat", "steep"), ("steep",))):
            for corners in (40, 8):
                net = great_net(firsts, salt, corners)
                try:
                    told = seen_paper(net, 0, 7)
                except TooMany:
                    words.append("many")
                    continue
                self.assertIs(is_seen_paper(net, 0, 7, told), True)
                self.assertIs(is_seen(net, 0, 7, told[:2]), True)
                self.assertLessEqual(digits(told[2:]), 60)
                words.append(told[0])
        self.assertIn("many", words)
        self.assertIn("rise", words)


class RefusalTests(unittest.TestCase):
    def test_refusals(self):
        bad_knot = (NO_INTEGERS + [-1, 3, 10], InvalidNumber, "given")
        for function in (seen, seen_paper):
            assert_refusals(self, function, [ROW, 0, 2], {0: BAD_NET, 1: bad_knot, 2: bad_knot})
        for function in (is_seen, is_seen_paper):
            assert_refusals(self, function, [ROW, 0, 2, None], {0: BAD_NET, 1: bad_knot, 2: bad_knot})
        wrongs = {0: BAD_NET, 1: bad_knot, 2: bad_knot, 3: (NO_INTEGERS, InvalidNumber, "given")}
        assert_refusals(self, is_with, [ROW, 0, 2, 0, None], wrongs)

    def test_what_comes_then_is_last(self):
        for function, more in ((seen, ()), (seen_paper, ()), (is_seen, (None,)), (is_seen_paper, (None,))):
            assert_raises(self, InvalidOperation, None, function, ROW, 1, 1, *more)
            assert_raises(self, InvalidOperation, None, function, LONG_ROW, 1, 1, *more)
            assert_raises(self, InvalidNumber, ("given", True), function, ROW, 1, True, *more)
        assert_raises(self, InvalidOperation, None, is_with, ROW, 1, 1, 0, None)
        assert_raises(self, InvalidNumber, ("given", LONG), is_with, ROW, 1, 1, LONG, None)
        assert_raises(self, InvalidOperation, None, seen, plain_net(1, ()), 0, 0)
        assert_judges(self, is_seen, (Net(2, ((0, 1, STAIRS),)), 0, 1), [("rise", STAIRS)], JUNK + [("rise", turned(STAIRS))])


if __name__ == "__main__":
    unittest.main()
