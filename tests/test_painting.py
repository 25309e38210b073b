"""Stage 6: a loop or a cut."""

import itertools
import unittest

from helpers import (
    DIODE, JUNK, LONG, NETS, NO_INTEGERS, all_cuts, all_loops, assert_judges, assert_raises, assert_refusals, plain_net,
    spread)
from risenets.errors import InvalidKinds, InvalidNumber, InvalidOperation
from risenets.net.nets import Net, drops, surplus
from risenets.net.painting import (
    is_cut_of, is_kinds, is_loop_of, is_loop_or_cut, is_witness, loop_or_cut, parted, reached, witness)
from test_nets import BAD_NET

WORDS = ("free", "one", "barred")
TURN = plain_net(4, ((0, 1), (1, 2), (2, 0), (2, 3)))
KINDS = ("one", "one", "free", "one")


def some_kinds(net):
    """Kinds for the net: all of them where it has few wires."""
    if len(net) <= 4:
        return list(itertools.product(WORDS, repeat=len(net)))
    return [tuple(WORDS[n + 1] for n in spread(len(net), 1, salt)) for salt in range(40)]


def right_loops(net, kinds):
    """All loops that go with the kinds."""
    return [loop for loop in all_loops(net)
            if all(kinds[wire] == "free" or (kinds[wire] == "one" and way == 1) for wire, way in loop)]


def right_cuts(net, kinds):
    """All cuts that go with the kinds."""
    found = []
    for cut in all_cuts(net):
        leaving = [kinds[k] for k, (a, b, _) in enumerate(net.wires) if a in cut and b not in cut]
        entering = [kinds[k] for k, (a, b, _) in enumerate(net.wires) if a not in cut and b in cut]
        if "free" not in leaving and "free" not in entering and "one" not in entering:
            found.append(cut)
    return found


class KindTests(unittest.TestCase):
    def test_judge(self):
        for net in NETS:
            right = some_kinds(net)[:9]
            wrong = [("one",) * (len(net) + 1), ["one"] * len(net), ("One",) * len(net), "one", ("one ",) * len(net)]
            if len(net):
                wrong += [("one",) * (len(net) - 1), (), (None,) * len(net), (1,) * len(net)]
            assert_judges(self, is_kinds, (net,), right, [value for value in wrong if value != () or len(net)])

    def test_every_kind(self):
        for kinds in itertools.product(WORDS, repeat=4):
            self.assertIs(is_kinds(TURN, kinds), True)
        self.assertIs(is_kinds(Net(1, ()), ()), True)


class GoesWithTests(unittest.TestCase):
    def test_judges_take_all_and_no_others(self):
        for net in NETS:
            loops, cuts = all_loops(net), all_cuts(net)
            for kinds in some_kinds(net):
                right = set(right_loops(net, kinds))
                for loop in loops:
                    self.assertIs(is_loop_of(net, kinds, loop), loop in right)
                good = set(right_cuts(net, kinds))
                for cut in cuts:
                    self.assertIs(is_cut_of(net, kinds, cut), cut in good)

    def test_other_values(self):
        wrong = [(), [0], (4,), (1, 0), (True,), ((0, 1), (1, 1)), ((0, 1), (1, 1), (2, True)), [(0, 1), (1, 1), (2, 1)],
                 ((0, -1), (2, -1), (1, -1)), ((2, -1),), (LONG,), ((LONG, 1),)]
        assert_judges(self, is_loop_of, (TURN, KINDS), right_loops(TURN, KINDS), wrong)
        assert_judges(self, is_cut_of, (TURN, KINDS), [(0, 1, 2), (0, 1, 2, 3)], wrong + [(3,), (0,), (0, 2)])

    def test_two_free_wires_make_a_loop_both_ways(self):
        net = plain_net(2, ((0, 1), (0, 1)))
        for loop in all_loops(net):
            self.assertIs(is_loop_of(net, ("free", "free"), loop), True)
            self.assertIs(is_loop_of(net, ("one", "free"), loop), (0, 1) in loop)
            self.assertIs(is_loop_of(net, ("free", "barred"), loop), False)


class EitherOrTests(unittest.TestCase):
    def test_loop_or_cut(self):
        for net in NETS:
            for kinds in some_kinds(net):
                loops, cuts = right_loops(net, kinds), right_cuts(net, kinds)
                in_loops, in_cuts = [], []
                for wire in range(len(net)):
                    if kinds[wire] != "one":
                        assert_raises(self, InvalidOperation, None, loop_or_cut, net, kinds, wire)
                        continue
                    having = [loop for loop in loops if (wire, 1) in loop]
                    left = [cut for cut in cuts if net.wires[wire][0] in cut and net.wires[wire][1] not in cut]
                    self.assertNotEqual(bool(having), bool(left))
                    word, told = loop_or_cut(net, kinds, wire)
                    self.assertIn(told, having if word == "loop" else left)
                    (in_loops if having else in_cuts).append(wire)
                self.assertEqual(parted(net, kinds), (tuple(in_loops), tuple(in_cuts)))

    def test_judge_takes_all_and_no_others(self):
        for net, kinds in ((TURN, KINDS), (NETS[10], ("one", "free", "one", "one", "barred", "one")),
                           (NETS[8], ("one", "free", "barred", "free", "one")), (NETS[9], ("one",) * 5)):
            for wire in range(len(net)):
                if kinds[wire] != "one":
                    assert_raises(self, InvalidOperation, None, is_loop_or_cut, net, kinds, wire, None)
                    continue
                tail, head, _ = net.wires[wire]
                right = [("loop", loop) for loop in right_loops(net, kinds) if (wire, 1) in loop]
                right += [("cut", cut) for cut in right_cuts(net, kinds) if tail in cut and head not in cut]
                wrong = [("loop", loop) for loop in all_loops(net)] + [("cut", cut) for cut in all_cuts(net)]
                wrong += [("loop", ()), ("cut", ()), ("cut", [0]), ("loop", None), ("cut", (True,)), ("path", (0,)), ("cut",)]
                wrong += [(word, told, 0) for word, told in right] + [[word, told] for word, told in right]
                wrong += [(odd, told) for _, told in right for odd in ("Loop", "Cut", None, "", "state")]
                wrong += [told for _, told in right] + [("loop", told) for word, told in right if word == "cut"]
                assert_judges(self, is_loop_or_cut, (net, kinds, wire), right,
                              [value for value in wrong if value not in right])

    def test_reached(self):
        for net in NETS:
            for kinds in some_kinds(net):
                for start in range(net.knots):
                    knots = {start}
                    while True:
                        more = {head for k, (tail, head, _) in enumerate(net.wires)
                                if kinds[k] != "barred" and tail in knots}
                        more |= {tail for k, (tail, head, _) in enumerate(net.wires)
                                 if kinds[k] == "free" and head in knots}
                        if more <= knots:
                            break
                        knots |= more
                    self.assertEqual(reached(net, kinds, start), tuple(sorted(knots)))

    def test_great_net(self):
        net = plain_net(12, [(k, (k + 1) % 12) for k in range(12)] + [(k, (k + 2) % 12) for k in range(12)])
        kinds = ("one",) * 24
        self.assertEqual(parted(net, kinds), (tuple(range(24)), ()))
        self.assertIs(is_witness(net, kinds, witness(net, kinds)), True)
        row = plain_net(12, [(k, k + 1) for k in range(11)] + [(k, k + 1) for k in range(11)])
        self.assertEqual(parted(row, ("one",) * 22), ((), tuple(range(22))))
        self.assertEqual(reached(row, ("one",) * 22, 5), tuple(range(5, 12)))
        self.assertIs(is_witness(row, ("one",) * 22, witness(row, ("one",) * 22)), True)
        self.assertEqual(parted(row, ("one", "free") * 11)[1], ())


class WitnessTests(unittest.TestCase):
    def test_witness(self):
        for net in NETS:
            for kinds in some_kinds(net):
                told = witness(net, kinds)
                self.assertIs(is_witness(net, kinds, told), True)
                self.assertTrue(self.shows(net, kinds, told))
                loops, cuts = parted(net, kinds)
                for wire in loops:
                    self.assertGreater(told[0][wire], 0)
                for wire in cuts:
                    self.assertGreater(drops(net, told[1])[wire], 0)

    def shows(self, net, kinds, value):
        """Whether the pair is as [6.3] tells."""
        currents, heights = value
        tensions = drops(net, heights)
        if any(surplus(net, currents)):
            return False
        for kind, current, tension in zip(kinds, currents, tensions):
            if kind == "barred" and current != 0 or kind == "free" and tension != 0:
                return False
            if kind == "one" and not (min(current, tension) >= 0 and (current > 0) != (tension > 0)):
                return False
        return True

    def test_judge_on_all_small_pairs(self):
        for net in NETS[:7]:
            rows = list(itertools.product((-1, 0, 1, 2), repeat=len(net)))
            heights = list(itertools.product((0, 1, 3), repeat=net.knots))
            for kinds in some_kinds(net):
                for value in itertools.product(rows, heights):
                    self.assertIs(is_witness(net, kinds, value), self.shows(net, kinds, value))

    def test_judge(self):
        right = [((1, 1, 1, 0), (1, 1, 1, 0)), ((5, 5, 5, 0), (0, 0, 0, -3)), ((10 ** 99,) * 3 + (0,), (7, 7, 7, -10 ** 99))]
        wrong = [((1, 1, 1, 0), (0, 0, 0, 0)), ((0, 0, 0, 0), (1, 1, 1, 0)), ((1, 1, 1, 1), (1, 1, 1, 0)),
                 ((1, 1, 1, 0), (1, 1, 0, 0)), ((1, 1, 2, 0), (1, 1, 1, 0)), ((-1, -1, -1, 0), (1, 1, 1, 0)),
                 ((True, 1, 1, 0), (1, 1, 1, 0)), ((1, 1, 1, 0), (1, 1, 1, False)), ([1, 1, 1, 0], (1, 1, 1, 0)),
                 ((1, 1, 1), (1, 1, 1, 0)), ((1, 1, 1, 0), (1, 1, 1)), [(1, 1, 1, 0), (1, 1, 1, 0)], ((1, 1, 1, 0),),
                 ((1, 1, 1, 0), (1, 1, 1, 0), 0), ((1, 1, 1, None), (1, 1, 1, 0)), ((1, 1, 1, 0), (1, 1, 1, 2))]
        assert_judges(self, is_witness, (TURN, KINDS), right, wrong)
        net = plain_net(2, ((0, 1), (1, 0)))
        assert_judges(self, is_witness, (net, ("free", "free")), [((-3, -3), (2, 2)), ((0, 0), (0, 0))],
                      [((-3, -3), (2, 1)), ((-3, 3), (2, 2))])
        assert_judges(self, is_witness, (net, ("barred", "barred")), [((0, 0), (2, -2)), ((0, 0), (0, 0))],
                      [((1, 1), (0, 0)), ((0, False), (0, 0))])


class RefusalTests(unittest.TestCase):
    def test_refusals(self):
        no_kinds = JUNK + [0, LONG, ("one",) * 3, ("one",) * 5, ["one"] * 4, ("one", "one", "one", "On"),
                           ("one", "one", "one", None), (["one"],) * 4, ("one", "one", "one", True), "free"]
        bad_kinds = (no_kinds, InvalidKinds, None)
        bad_index = (NO_INTEGERS + [-1, 4, 10], InvalidNumber, "given")
        assert_refusals(self, is_kinds, [TURN, ()], {0: BAD_NET})
        for function in (parted, witness):
            assert_refusals(self, function, [TURN, KINDS], {0: BAD_NET, 1: bad_kinds})
        for function in (is_loop_of, is_cut_of, is_witness):
            assert_refusals(self, function, [TURN, KINDS, ()], {0: BAD_NET, 1: bad_kinds})
        for function in (reached, loop_or_cut):
            assert_refusals(self, function, [TURN, KINDS, 1], {0: BAD_NET, 1: bad_kinds, 2: bad_index})
        assert_refusals(self, is_loop_or_cut, [TURN, KINDS, 1, ()], {0: BAD_NET, 1: bad_kinds, 2: bad_index})

    def test_what_comes_then_is_last(self):
        assert_raises(self, InvalidKinds, None, loop_or_cut, TURN, ("free",), 0)
        for wire in (0, 3):
            assert_raises(self, InvalidOperation, None, loop_or_cut, TURN, ("free", "one", "one", "barred"), wire)
            assert_raises(self, InvalidOperation, None, is_loop_or_cut, TURN, ("free", "one", "one", "barred"), wire, ())
        assert_raises(self, InvalidNumber, ("given", 0), loop_or_cut, Net(1, ()), (), 0)
        assert_raises(self, InvalidNumber, ("given", 1), reached, Net(1, ()), (), 1)
        self.assertEqual(reached(Net(2, ((0, 1, DIODE),)), ("barred",), 1), (1,))


if __name__ == "__main__":
    unittest.main()
