"""Stage 17: plane nets."""

import itertools
import unittest

from helpers import (
    BATTERY, DIODE, FUSE, JUNK, NETS, NO_INTEGERS, STAIRS, all_cuts, all_fights, all_loops, assert_judges, assert_raises,
    assert_refusals, digits, dressed, great_net, plain_net, rests, spread)
from risenets.ends.seen import seen
from risenets.errors import InvalidOperation, InvalidPlane, InvalidState, Refused, TooMany
from risenets.net.nets import Net, components, cut_wires, drops, is_cut, is_loop
from risenets.plane.faces import (
    dual_by, dual_cut, dual_loop, dual_state, faces_by, is_bars, is_plane, is_turns, turns_or_bars)
from risenets.rise.joins import transposed, turned
from risenets.state.states import is_fight, is_state, state_or_fight
from test_nets import BAD_NET
from test_recipes import SHAPES

LAMP = Net(3, ((0, 1, BATTERY), (1, 2, DIODE), (2, 0, STAIRS)))
CIRCLE = ((0, 2), (0, 1), (1, 2))
ROW = Net(3, ((0, 1, FUSE), (1, 2, DIODE)))
FULL = plain_net(5, [(one, other) for other in range(5) for one in range(other)])
UTILITY = plain_net(6, [(one, other) for one in range(3) for other in range(3, 6)])
CUBE = plain_net(8, [(k, k ^ bit) for k in range(8) for bit in (1, 2, 4) if k < k ^ bit])
PETERSEN = plain_net(10, [(k, (k + 1) % 5) for k in range(5)] + [(k, k + 5) for k in range(5)] + [(k + 5, (k + 2) % 5 + 5) for k in range(5)])
SOLID = plain_net(6, [(k, j) for k in range(6) for j in range(k + 1, 6) if j != 5 - k])


def drawn_by_lot(count, least_knots, most_knots, more):
    """Nets whose wires stand between knots in no plain sequence; most of them have no loose parts."""
    found = []
    for salt in range(count):
        knots = least_knots + salt % (most_knots - least_knots + 1)
        numbers = [number + 600 for number in spread(2 * (more + salt % 7), 600, salt + 900)]
        ends = [(k, (k + 1) % knots) for k in range(knots)] + list(zip(numbers[::2], numbers[1::2]))
        found.append(plain_net(knots, [(a % knots, b % knots) for a, b in ends if a % knots != b % knots]))
    return found


SOME = SHAPES + NETS + [LAMP, ROW, CUBE, SOLID] + drawn_by_lot(60, 2, 6, 1)


def turns_of_all(net):
    """All turns, each one from the least wire on."""
    rows = []
    for knot in range(net.knots):
        wires = [wire for wire, ends in enumerate(net.wires) if knot in ends[:2]]
        rows.append([tuple(wires[:1]) + order for order in itertools.permutations(wires[1:])])
    return itertools.product(*rows)


def faces_by_hand(net, turns):
    """The faces, by the words of [17.1]."""
    left = sorted((wire, way) for wire in range(len(net)) for way in (1, -1))
    found = []
    while left:
        face, step = [], left[0]
        while step in left:
            left.remove(step)
            face.append(step)
            wire, way = step
            knot = net.wires[wire][1 if way == 1 else 0]
            turn = turns[knot]
            onward = turn[(turn.index(wire) + 1) % len(turn)]
            step = (onward, 1 if net.wires[onward][0] == knot else -1)
        found.append(tuple(face))
    return tuple(found)


def numbers_of(net, turns):
    """For each component with wires the knots, less the wires, and the faces."""
    found = []
    for knots in components(net):
        wires = [wire for wire, ends in enumerate(net.wires) if ends[0] in knots]
        if wires:
            faces = [face for face in faces_by_hand(net, turns) if face[0][0] in wires]
            found.append(len(knots) - len(wires) + len(faces))
    return found


def are_bars(net, hubs, ways):
    """Whether these are bars, by the words of [17.3]."""
    if len(hubs) == 5:
        pairs = list(itertools.combinations(hubs, 2))
    elif len(hubs) == 6:
        pairs = [(first, last) for first in hubs[:3] for last in hubs[3:]]
    else:
        return False
    inner = []
    for (first, last), way in zip(pairs, ways):
        knots = [first]
        for wire, turn in way:
            begin, end = net.wires[wire][:2][::turn]
            if begin != knots[-1]:
                return False
            knots.append(end)
        if knots[-1] != last or len(knots) < 2:
            return False
        inner += knots[1:-1]
    return len(ways) == len(pairs) and len(set(hubs)) == len(hubs) and len(set(inner)) == len(inner) and not set(inner) & set(hubs)


def duals():
    """Plane connected nets with small rises, that have a dual, with turns of them."""
    found = []
    for at, shape in enumerate(SOME):
        told = turns_or_bars(shape)
        if told[0] == "turns" and len(components(shape)) == 1 and len(shape):
            net, faces = dressed(shape, 3 * at), faces_by_hand(shape, told[1])
            if len(faces) <= 12 and all((wire, -1) not in face for face in faces for wire, way in face if way == 1):
                found.append((net, told[1]))
    return found


DUALS = duals() + [(LAMP, CIRCLE)]


class TurnTests(unittest.TestCase):
    def test_is_turns(self):
        right = [CIRCLE, ((2, 0), (0, 1), (1, 2)), ((2, 0), (1, 0), (2, 1))]
        wrong = [((0, 2), (0, 1)), CIRCLE + ((),), ((0, 2), (0, 1), (1, 1)), ((0, 2), (0, 1), (1,)), ((0, 2), (0, 1), (0, 1)), list(CIRCLE),
                 ([0, 2], (0, 1), (1, 2)), ((False, 2), (0, 1), (1, 2)), ((0, 2), (0, True), (1, 2)), ((0, 2), (0, 1), (1, 2, 2)), (0, 1, 2),
                 ((0, 2), (0, 1), (1, 3)), ((0, 2), (0, 1), None), ((0, 2), (0, 1), (1, None)), ((0, 2), (0, 1), "12"), ((0, 2), (0, 1), (1, -1))]
        assert_judges(self, is_turns, (LAMP,), right, wrong)
        assert_judges(self, is_turns, (Net(2, ()),), [((), ())], [(), ((),), ((), (), ()), ((), (0,)), [(), ()]])
        for net in SOME:
            if turns_or_bars(net)[0] == "turns":
                self.assertIs(is_turns(net, turns_or_bars(net)[1]), True)

    def test_faces(self):
        self.assertEqual(faces_by(Net(3, ()), ((), (), ())), ())
        self.assertEqual(faces_by(ROW, ((0,), (0, 1), (1,))), (((0, -1), (0, 1), (1, 1), (1, -1)),))
        shown = 0
        for net in SOME:
            for turns in itertools.islice(turns_of_all(net), 0, 60, 7):
                self.assertEqual(faces_by(net, turns), faces_by_hand(net, turns))
                shown += 1
        self.assertGreater(shown, 200)

    def test_is_plane(self):
        found = []
        for net in SOME:
            for turns in itertools.islice(turns_of_all(net), 0, 90, 4):
                numbers = numbers_of(net, turns)
                self.assertTrue(all(number in (2, 0, -2, -4, -6, -8, -10) for number in numbers))
                right = all(number == 2 for number in numbers)
                self.assertIs(is_plane(net, turns), right)
                found.append(right)
        self.assertGreater(min(found.count(True), found.count(False)), 100)

    def test_not_all_turns_of_a_plane_net_are_plane(self):
        net = plain_net(2, ((0, 1),) * 3)
        self.assertIs(is_plane(net, ((0, 1, 2), (0, 2, 1))), True)
        self.assertIs(is_plane(net, ((0, 1, 2), (0, 1, 2))), False)
        self.assertIs(is_plane(Net(4, ()), ((), (), (), ())), True)
        both = plain_net(4, ((0, 1),) * 3 + ((2, 3),) * 3)
        self.assertIs(is_plane(both, ((0, 1, 2), (2, 1, 0), (3, 4, 5), (5, 4, 3))), True)
        self.assertIs(is_plane(both, ((0, 1, 2), (2, 1, 0), (3, 4, 5), (3, 4, 5))), False)


class EitherOrTests(unittest.TestCase):
    def check(self, net):
        """Either plane turns are told, or bars; the word is returned."""
        told = turns_or_bars(net)
        if told[0] == "turns":
            self.assertEqual(len(told), 2)
            self.assertIs(is_turns(net, told[1]), True)
            self.assertEqual(set(numbers_of(net, told[1])) - {2}, set())
            self.assertIs(is_plane(net, told[1]), True)
        else:
            self.assertEqual((told[0], len(told)), ("bars", 3))
            self.assertTrue(are_bars(net, *told[1:]), (net.wires, told))
            self.assertIs(is_bars(net, told[1:]), True)
        return told[0]

    def test_either_or(self):
        words = [self.check(net) for net in SOME]
        words += [self.check(net) for net in drawn_by_lot(120, 5, 9, 9)]
        self.assertGreater(min(words.count("turns"), words.count("bars")), 20)

    def test_by_trying_all_turns(self):
        words = []
        for knots, missing in itertools.product((5,), range(10)):
            words.append(self.check(Net(knots, FULL.wires[:missing] + FULL.wires[missing + 1:])))
        self.assertEqual(set(words), {"turns"})
        small = plain_net(5, ((0, 1), (1, 2), (2, 0), (0, 3), (1, 3), (2, 3), (3, 4), (4, 0)))
        self.assertTrue(any(all(number == 2 for number in numbers_of(small, turns)) for turns in turns_of_all(small)))
        self.assertEqual(self.check(small), "turns")
        self.assertFalse(any(numbers_of(UTILITY, turns) == [2] for turns in turns_of_all(UTILITY)))
        self.assertEqual(self.check(UTILITY), "bars")

    def test_known_nets(self):
        for net, word in ((FULL, "bars"), (UTILITY, "bars"), (CUBE, "turns"), (PETERSEN, "bars"), (SOLID, "turns"), (Net(1, ()), "turns"),
                          (Net(12, ()), "turns"), (plain_net(2, ((0, 1),) * 24), "turns"), (great_net(("flat",), 0, 1), None)):
            told = self.check(net)
            if word:
                self.assertEqual(told, word)
        for wire in range(9):
            self.assertEqual(self.check(Net(6, UTILITY.wires[:wire] + UTILITY.wires[wire + 1:])), "turns")

    def test_bars_with_long_ways_and_more(self):
        ends = [wire[:2] for wire in UTILITY.wires]
        long_ways = plain_net(12, [(0, 6), (6, 7), (7, 3)] + ends[1:4] + [(4, 8), (8, 1)] + ends[5:] + [(9, 10), (10, 11), (11, 9), (8, 7)])
        self.assertEqual(self.check(long_ways), "bars")
        ends = [wire[:2] for wire in FULL.wires]
        long_ways = plain_net(12, [(5, 0), (5, 6), (6, 1)] + ends[1:8] + [(1, 7), (7, 4)] + ends[8:9] + ends[9:] + [(0, 8), (8, 9), (9, 10), (2, 11)])
        self.assertEqual(self.check(long_ways), "bars")
        twins = plain_net(5, ends + ends)
        self.assertEqual(self.check(twins), "bars")

    def test_several_blocks_and_components(self):
        net = plain_net(9, ((0, 1), (1, 2), (2, 0), (0, 3), (3, 4), (4, 0), (0, 5), (6, 7), (7, 6), (0, 1)))
        self.assertEqual(self.check(net), "turns")
        self.assertEqual(self.check(plain_net(12, [wire[:2] for wire in FULL.wires] + [(k + 6, j + 6) for k, j in ((0, 1), (1, 2), (2, 0))])), "bars")

    def test_is_bars(self):
        ways = tuple(((wire, 1),) for wire in (0, 1, 3, 6, 2, 4, 7, 5, 8, 9))
        hubs = (0, 1, 2, 3, 4)
        wrong = [(hubs, ()), (hubs, ways[:9]), (hubs, list(ways)), (list(hubs), ways), [hubs, ways], (hubs, ways, 0), ((0, 1, 2, 3, 3), ways),
                 ((False, 1, 2, 3, 4), ways), ((0, True, 2, 3, 4), ways), (hubs, (((0, True),), *ways[1:])), (hubs, (((False, 1),), *ways[1:])),
                 (hubs, (((0, -1),), *ways[1:])), (hubs, ((), *ways[1:])), (hubs, ([(0, 1)], *ways[1:])), (hubs, (((1, 1), (2, -1)), *ways[1:])),
                 (hubs, (((10, 1),), *ways[1:])), ((0, 1, 2, 3, 5), ways), (hubs, ways[::-1]), ("bars", hubs, ways), ((1, 0, 2, 3, 4), ways),
                 (hubs, (((0, 1), (0, -1), (0, 1)), *ways[1:])), (hubs, (None, *ways[1:])), (hubs, ways + ways[:1]), (None, ways), (hubs[:4], ways[:6])]
        other = ((1, 0, 2, 3, 4), tuple(((wire, way),) for wire, way in zip((0, 2, 4, 7, 1, 3, 6, 5, 8, 9), (-1,) + (1,) * 9)))
        assert_judges(self, is_bars, (FULL,), [(hubs, ways), other], wrong)
        ways = tuple(((wire, 1),) for wire in range(9))
        right = [((0, 1, 2, 3, 4, 5), ways), ((1, 0, 2, 3, 4, 5), ways[3:6] + ways[:3] + ways[6:]),
                 ((3, 4, 5, 0, 1, 2), tuple(((wire, -1),) for wire in (0, 3, 6, 1, 4, 7, 2, 5, 8)))]
        backward = right[2][1]
        wrong = [((3, 4, 5, 0, 1, 2), (((0, way),), *backward[1:])) for way in (0, 2, -2, None)] + wrong
        wrong = [((0, 1, 2, 3, 5, 4), ways), ((0, 1, 3, 2, 4, 5), ways), ((0, 1, 2, 3, 4, 4), ways), ((0, 1, 2, 3, 4, True), ways)] + wrong
        assert_judges(self, is_bars, (UTILITY,), right, wrong)
        assert_judges(self, is_bars, (CUBE,), [], wrong + right)


class DualTests(unittest.TestCase):
    def test_dual(self):
        for net, turns in DUALS:
            dual, rows = dual_by(net, turns)
            faces = faces_by_hand(net, turns)
            self.assertEqual((dual.knots, len(dual)), (len(faces), len(net)))
            for wire, (tail, head, rise) in enumerate(dual.wires):
                self.assertIn((wire, 1), faces[tail])
                self.assertIn((wire, -1), faces[head])
                self.assertEqual(rise, transposed(net.wires[wire][2]))
            self.assertEqual(rows, tuple(tuple(wire for wire, _ in face) for face in faces))
            self.assertIs(is_turns(dual, rows), True)
            self.assertIs(is_plane(dual, rows), True)
        self.assertGreater(len(DUALS), 40)

    def test_dual_of_the_dual(self):
        for net, turns in DUALS:
            dual, rows = dual_by(net, turns)
            again, last = dual_by(dual, rows)
            # The faces of the dual stand for the knots of the net.
            places = {}
            for (tail, head, rise), (new_tail, new_head, new_rise) in zip(net.wires, again.wires):
                self.assertEqual((places.setdefault(tail, new_tail), places.setdefault(head, new_head), rise), (new_tail, new_head, new_rise))
            self.assertEqual(sorted(places.values()), list(range(net.knots)))
            for knot in range(net.knots):
                turn = turns[knot]
                self.assertIn(last[places[knot]], [turn[k:] + turn[:k] for k in range(len(turn))])

    def test_states_go_to_states(self):
        words = []
        for at, (net, turns) in enumerate(DUALS * 3):
            net = dressed(net, at) if net != LAMP else net
            dual = dual_by(net, turns)[0]
            told, there = state_or_fight(net), state_or_fight(dual)
            words.append(told[0])
            self.assertEqual(told[0] == "state", there[0] == "state")
            if told[0] == "state":
                currents, heights = dual_state(net, turns, told[1:])
                self.assertEqual((currents, heights[0]), (drops(net, told[2]), 0))
                self.assertEqual(drops(dual, heights), told[1])
                self.assertTrue(rests(dual, (currents, heights)))
        for word in ("state", "cut", "loop"):
            self.assertGreater(words.count(word), 10)

    def test_long_states(self):
        far = 10 ** 99
        net = Net(2, ((0, 1, ("level", 5)), (0, 1, ("level", 5)), (1, 0, ("level", -5))))
        turns = ((0, 1, 2), (2, 1, 0))
        currents, heights = dual_state(net, turns, ((far, 1 - far, 1), (far + 5, far)))
        self.assertEqual(currents, (5, 5, -5))
        self.assertIs(is_state(dual_by(net, turns)[0], (currents, heights)), True)

    def test_loops_go_to_cuts(self):
        fights = 0
        for net, turns in DUALS:
            dual, found = dual_by(net, turns)[0], set()
            own = all_fights(net)
            for loop in all_loops(net):
                cut = dual_loop(net, turns, loop)
                self.assertIs(is_cut(dual, cut), True)
                self.assertEqual(cut_wires(dual, cut), tuple(tuple(sorted(wire for wire, way in loop if way == turn)) for turn in (1, -1)))
                self.assertIs(is_fight(dual, ("cut", cut)), ("loop", loop) in own)
                fights += ("loop", loop) in own
                found.add((tuple(sorted(loop)), cut))
            self.assertEqual(len({cut for _, cut in found}), len(found))
        self.assertGreater(fights, 50)

    def test_cuts_go_to_loops(self):
        fights = split = 0
        for net, turns in DUALS:
            dual = dual_by(net, turns)[0]
            own = all_fights(net)
            for cut in all_cuts(net):
                others = tuple(knot for knot in range(net.knots) if knot not in cut)
                parts = [components_within(net, knots) for knots in (cut, others)]
                if parts != [1, 1]:
                    assert_raises(self, Refused, ("reason", ("split",)), dual_cut, net, turns, cut)
                    split += 1
                    continue
                loop = dual_cut(net, turns, cut)
                self.assertIs(is_loop(dual, loop), True)
                self.assertEqual(loop[0], min(loop))
                self.assertEqual(tuple(tuple(sorted(wire for wire, way in loop if way == turn)) for turn in (1, -1)), cut_wires(net, cut))
                self.assertIs(is_fight(dual, ("loop", loop)), ("cut", cut) in own)
                fights += ("cut", cut) in own
        self.assertGreater(min(fights, split), 10)

    def test_rests(self):
        shown = 0
        for net, turns in DUALS:
            dual = dual_by(net, turns)[0]
            for wire in range(0, len(net), 2):
                own, other = [seen(Net(whole.knots, whole.wires[:wire] + whole.wires[wire + 1:]), whole.wires[wire][1], whole.wires[wire][0])
                              for whole in (net, dual)]
                self.assertEqual(own[0] == "rise", other[0] == "rise")
                if own[0] == "rise":
                    self.assertEqual(other[1], turned(transposed(own[1])))
                    shown += 1
        self.assertGreater(shown, 40)

    def test_one_knot(self):
        net = Net(1, ())
        self.assertEqual(dual_by(net, ((),)), (net, ((),)))
        self.assertEqual(dual_state(net, ((),), ((), (7,))), ((), (0,)))
        assert_raises(self, Refused, ("reason", ("split",)), dual_cut, net, ((),), (0,))
        assert_raises(self, InvalidOperation, None, dual_loop, net, ((),), ())

    def test_twelve_faces_and_more(self):
        wires = tuple((0, 1, ("level", 1)) for _ in range(13))
        for count in (12, 13):
            net, order = Net(2, wires[:count]), tuple(range(count))
            turns = (order, order[::-1])
            self.assertEqual(len(faces_by(net, turns)), count)
            state, loop = ((0,) * count, (1, 0)), ((0, 1), (1, -1))
            if count == 12:
                self.assertEqual(dual_by(net, turns)[0].knots, 12)
                self.assertEqual(len(dual_cut(net, turns, (0,))), 12)
                self.assertIs(is_state(dual_by(net, turns)[0], dual_state(net, turns, state)), True)
                self.assertEqual(len(dual_loop(net, turns, loop)) in (1, 11), True)
                continue
            for function, more in ((dual_by, ()), (dual_state, (state,)), (dual_loop, (loop,)), (dual_cut, ((0,),)), (dual_cut, ((0, 1),))):
                assert_raises(self, TooMany, ("limit", 12), function, net, turns, *more)

    def test_great_nets(self):
        wheel = plain_net(12, [(0, k) for k in range(1, 12)] + [(k, k % 11 + 1) for k in range(1, 12)])
        turns = turns_or_bars(wheel)[1]
        net = Net(12, tuple((tail, head, rise) for (tail, head, _), (_, _, rise) in zip(wheel.wires, great_net(("flat", "steep"), 1).wires)))
        dual = dual_by(net, turns)[0]
        told = state_or_fight(net)
        if told[0] == "state":
            state = dual_state(net, turns, told[1:])
            self.assertIs(is_state(dual, state), True)
            self.assertLessEqual(digits(state), 60)
        self.assertEqual(told[0] == "state", state_or_fight(dual)[0] == "state")


def components_within(net, knots):
    """How many lots the knots make that hang together by wires between them."""
    left, count = set(knots), 0
    while left:
        lot = [left.pop()]
        for knot in lot:
            for tail, head, _ in net.wires:
                for one, other in ((tail, head), (head, tail)):
                    if one == knot and other in left:
                        left.remove(other)
                        lot.append(other)
        count += 1
    return count


class RefusalTests(unittest.TestCase):
    def test_refusals(self):
        no_turns = JUNK + [0, ((0, 2), (0, 1)), ((0, 2), (0, 1), (1, 1)), list(CIRCLE), ((0, 2), (0, 1), (1, True)), ((0, 2), (0, 1), (1, 10 ** 99))]
        bad_turns = (no_turns, InvalidPlane, None)
        state, loop = ((0, 0, 0), (0, -5, -1)), ((0, 1), (1, 1), (2, 1))
        bad_state = (NO_INTEGERS + [((0, 0, 0), (0, -5, 2)), ((0, 0, False), (0, -5, -1)), [(0, 0, 0), (0, -5, -1)], 0], InvalidState, None)
        bad_loop = (NO_INTEGERS + [((0, 1), (1, 1)), ((0, True), (1, 1), (2, 1)), list(loop), 0], InvalidOperation, None)
        bad_cut = (NO_INTEGERS + [(1, 0), (3,), (False,), [1], 0], InvalidOperation, None)
        bad_cut = ([value for value in bad_cut[0] if value not in [(0, 1), (1, 2), (0, 1, 2)]], InvalidOperation, None)
        for function in (turns_or_bars,):
            assert_refusals(self, function, [LAMP], {0: BAD_NET})
        for function in (is_turns, is_bars):
            assert_refusals(self, function, [LAMP, None], {0: BAD_NET})
        for function in (faces_by, is_plane, dual_by):
            assert_refusals(self, function, [LAMP, CIRCLE], {0: BAD_NET, 1: bad_turns})
        assert_refusals(self, dual_state, [LAMP, CIRCLE, state], {0: BAD_NET, 1: bad_turns, 2: bad_state})
        assert_refusals(self, dual_loop, [LAMP, CIRCLE, loop], {0: BAD_NET, 1: bad_turns, 2: bad_loop})
        assert_refusals(self, dual_cut, [LAMP, CIRCLE, (1,)], {0: BAD_NET, 1: bad_turns, 2: bad_cut})

    def test_what_comes_then_is_last(self):
        ring = ((0, 1), (1, 2), (2, 0))
        parts = plain_net(5, ring + ((3, 4),))
        torn = plain_net(4, ((0, 1),) * 3 + ((1, 2),) + ((2, 3),) * 3)
        cases = [(parts, ((0, 2), (0, 1), (1, 2), (3,), (3,)), ("parts",)),
                 (torn, ((0, 1, 2), (0, 1, 2, 3), (3, 4, 5, 6), (6, 5, 4)), ("turns",)),
                 (torn, ((0, 1, 2), (2, 1, 0, 3), (3, 4, 5, 6), (6, 5, 4)), ("bridge", 3)),
                 (plain_net(2, ((0, 1),)), ((0,), (0,)), ("bridge", 0)), (Net(2, ()), ((), ()), ("parts",)),
                 (plain_net(4, ring + ((2, 3),)), ((0, 2), (0, 1), (1, 2, 3), (3,)), ("bridge", 3))]
        for net, turns, reason in cases:
            state = ((0,) * len(net), (0,) * net.knots)
            self.assertIs(is_turns(net, turns), True)
            for function, more, wrong, error in ((dual_by, (), None, None), (dual_state, (state,), ((), ()), InvalidState),
                                                 (dual_cut, ((0,),), (), InvalidOperation), (dual_cut, (tuple(range(net.knots)),), None, InvalidOperation)):
                assert_raises(self, Refused, ("reason", reason), function, net, turns, *more)
                if error:
                    assert_raises(self, error, None, function, net, turns, wrong)
            for loop in all_loops(net)[:1]:
                assert_raises(self, Refused, ("reason", reason), dual_loop, net, turns, loop)
        assert_raises(self, InvalidState, None, dual_state, parts, cases[0][1], ((0,) * 4, (0,) * 4))
        assert_raises(self, InvalidPlane, None, dual_by, parts, ((0, 2), (0, 1), (1, 2), (3,), ()))


class NotTrueTests(unittest.TestCase):
    """[17.7]: none of these is true."""

    def test_as_many_faces_as_the_dual(self):
        self.assertEqual((len(faces_by(LAMP, CIRCLE)), len(faces_by(*dual_by(LAMP, CIRCLE)))), (2, 3))

    def test_two_duals_are_alike(self):
        net = plain_net(4, ((0, 1), (0, 1), (1, 2), (2, 3), (3, 1), (0, 1)))
        found = set()
        for turns in turns_of_all(net):
            if numbers_of(net, turns) == [2]:
                found.add(tuple(sorted(len(face) for face in faces_by(net, turns))))
        self.assertGreater(len(found), 0)
        wide = plain_net(5, ((0, 1), (1, 2), (2, 0), (0, 3), (3, 4), (4, 0), (0, 1)))
        sizes = {tuple(sorted(len(face) for face in faces_by(wide, turns))) for turns in turns_of_all(wide) if is_plane(wide, turns)}
        self.assertGreater(len(sizes), 1)

    def test_bars_leave_no_state(self):
        self.assertEqual((turns_or_bars(FULL)[0], state_or_fight(FULL)[0]), ("bars", "state"))


if __name__ == "__main__":
    unittest.main()
