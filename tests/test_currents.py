"""Stage 7: currents within ranges."""

import itertools
import unittest

from helpers import (
    BATTERY, DIODE, FUSE, JUNK, LONG, NEAR, NETS, NO_INTEGERS, SIXTY, STAIRS, STEPS, all_cuts, all_loops,
    assert_judges, assert_raises, assert_refusals, cut_sum, digits, dressed_nets, fighting_cuts, great_net, is_inside,
    plain_net, spread, windows)
from risenets.errors import InvalidFeed, InvalidNumber, Refused
from risenets.fit.currents import (
    current_ends, current_ranges, currents_or_cut, fed_or_cut, is_fed_or_cut, is_most_current, is_within, most_current)
from risenets.net.nets import Net, surplus
from risenets.rise.rises import currents_of
from test_nets import BAD_NET, no_rows

LANES = Net(3, ((0, 1, FUSE), (0, 1, DIODE), (1, 2, STEPS), (2, 0, ("level", 0))))
LOOPED = Net(2, ((0, 1, BATTERY), (1, 0, DIODE)))
SMALL = dressed_nets(NETS, 8)


def balanced(numbers):
    """The numbers with the first one changed so that all add up to 0."""
    return (numbers[0] - sum(numbers), *numbers[1:])


def some_feeds(net):
    """A few feeds for the net."""
    return [(0,) * net.knots] + [balanced(spread(net.knots, most, 7 * net.knots + most)) for most in (1, 2, 4)]


def does_bear(net, feeds, currents):
    """Whether the currents bear the feeds within the ranges."""
    spans = [currents_of(rise) for _, _, rise in net.wires]
    return (tuple(-more for more in surplus(net, currents)) == tuple(feeds)
            and all(is_inside(span, current) for span, current in zip(spans, currents)))


def most_by_cut(net, feeds, wire, cut):
    """What a cut that the wire leaves lets it have at most, None if it tells nothing."""
    tail, head, _ = net.wires[wire]
    if tail not in cut or head in cut:
        return None
    spans = [currents_of(rise) for _, _, rise in net.wires]
    spans[wire] = (0, 0)
    least = cut_sum(net, cut, spans)
    return None if least is None else sum(feeds[knot] for knot in cut) - least


def endless_loops(net, wire):
    """All loops with the wire gone by 1 along which currents grow without end."""
    spans = [currents_of(rise) for _, _, rise in net.wires]
    return [loop for loop in all_loops(net) if (wire, 1) in loop
            and all((spans[k][1] if way == 1 else spans[k][0]) is None for k, way in loop)]


class RangeTests(unittest.TestCase):
    def test_ranges(self):
        self.assertEqual(current_ranges(LANES), ((-2, 2), (0, None), (0, 4), (None, None)))
        self.assertEqual(current_ranges(Net(1, ())), ())
        for net in SMALL + [great_net(("flat", "steep"), 1)]:
            self.assertEqual(current_ranges(net), tuple(currents_of(rise) for _, _, rise in net.wires))


class EitherOrTests(unittest.TestCase):
    def check(self, net, feeds):
        """Either within currents bear the feeds, or a cut fights them, never both."""
        word, told = fed_or_cut(net, feeds)
        cuts = fighting_cuts(net, feeds)
        self.assertEqual(word, "cut" if cuts else "currents")
        self.assertIs(is_fed_or_cut(net, feeds, (word, told)), True)
        if cuts:
            self.assertIn(told, cuts)
        else:
            self.assertTrue(does_bear(net, feeds, told))
            self.assertIs(is_within(net, feeds, told), True)

    def test_either_or(self):
        words = []
        for net in SMALL:
            for feeds in some_feeds(net):
                self.check(net, feeds)
                words.append(fed_or_cut(net, feeds)[0])
            self.assertEqual(currents_or_cut(net)[0], fed_or_cut(net, (0,) * net.knots)[0])
            self.assertIs(is_fed_or_cut(net, (0,) * net.knots, currents_or_cut(net)), True)
        self.assertGreater(min(words.count("cut"), words.count("currents")), 50)

    def test_within_is_what_its_words_say(self):
        for net in [net for net in SMALL if len(net) <= 3]:
            for feeds in some_feeds(net):
                for currents in windows(len(net), 3):
                    right = does_bear(net, feeds, currents)
                    self.assertIs(is_within(net, feeds, currents), right)
                    self.assertIs(is_fed_or_cut(net, feeds, ("currents", currents)), right)

    def test_cuts_are_judged_by_their_sums(self):
        for net in SMALL:
            for feeds in some_feeds(net)[:2]:
                right = fighting_cuts(net, feeds)
                for cut in all_cuts(net):
                    self.assertIs(is_fed_or_cut(net, feeds, ("cut", cut)), cut in right)

    def test_no_wires(self):
        self.assertEqual(currents_or_cut(Net(1, ())), ("currents", ()))
        self.assertEqual(fed_or_cut(Net(1, ()), (0,)), ("currents", ()))
        self.assertEqual(fed_or_cut(Net(2, ()), (1, -1)), ("cut", (1,)))
        self.assertEqual(fed_or_cut(Net(3, ()), (0, 0, 0)), ("currents", ()))
        self.assertIn(fed_or_cut(Net(3, ()), (-1, -1, 2)), [("cut", (0,)), ("cut", (1,)), ("cut", (0, 1))])
        for cut in ((0,), (1,), (0, 1), (2,), (0, 2), (1, 2), (0, 1, 2)):
            self.assertIs(is_fed_or_cut(Net(3, ()), (-1, -1, 2), ("cut", cut)), cut in ((0,), (1,), (0, 1)))

    def test_components(self):
        net = Net(5, ((0, 1, FUSE), (3, 4, FUSE)))
        self.assertEqual(fed_or_cut(net, (2, -2, 0, -2, 2)), ("currents", (2, -2)))
        self.assertEqual(fed_or_cut(net, (2, -2, 0, -3, 3))[0], "cut")
        self.assertEqual(fed_or_cut(net, (1, -2, 1, 0, 0))[0], "cut")
        self.assertIs(is_fed_or_cut(net, (1, -2, 1, 0, 0), ("cut", (0, 1))), True)
        self.assertIs(is_fed_or_cut(net, (1, -2, 1, 0, 0), ("cut", (2,))), False)

    def test_just_one_cut_fights(self):
        net = Net(4, ((0, 1, FUSE), (1, 2, FUSE), (2, 3, FUSE)))
        self.assertEqual(fighting_cuts(net, (2, 1, -1, -2)), [(2, 3)])
        self.assertEqual(fed_or_cut(net, (2, 1, -1, -2)), ("cut", (2, 3)))
        self.assertEqual(fed_or_cut(net, (2, 0, 0, -2)), ("currents", (2, 2, 2)))

    def test_far(self):
        far = SIXTY
        self.assertEqual(fed_or_cut(LOOPED, (far, -far))[0], "currents")
        self.assertIs(is_within(LOOPED, (far, -far), (far + 10 ** 99, 10 ** 99)), True)
        self.assertIs(is_within(LOOPED, (far, -far), (far + 10 ** 99, 10 ** 99 + 1)), False)
        self.assertEqual(fed_or_cut(Net(2, ((0, 1, FUSE),)), (-far, far)), ("cut", (0,)))

    def test_great_nets(self):
        for salt, firsts in itertools.product(range(3), (("flat", "steep"), ("steep",), ("flat",))):
            net = great_net(firsts, salt)
            for most in (0, NEAR, 10 ** 30 - 1):
                feeds = balanced(spread(12, most, salt)) if most < NEAR else (most, -most) + (0,) * 10
                self.check(net, feeds)
                self.assertLessEqual(digits(fed_or_cut(net, feeds)), 60)
                for wire in (0, 13, 23):
                    told = most_current(net, feeds, wire)
                    self.assertIs(is_most_current(net, feeds, wire, told), True)
                    self.assertLessEqual(digits(told), 60)


class MostTests(unittest.TestCase):
    def is_right(self, net, feeds, wire, value):
        """Whether the value is the most of one wire, by the words of [7.3]."""
        if value[0] == "cut":
            return value[1] in fighting_cuts(net, feeds)
        if value[0] == "endless":
            return does_bear(net, feeds, value[1]) and value[2] in endless_loops(net, wire)
        _, number, currents, knots = value
        if not does_bear(net, feeds, currents) or currents[wire] != number:
            return False
        if knots is None:
            return currents_of(net.wires[wire][2])[1] == number
        return most_by_cut(net, feeds, wire, knots) == number

    def test_most(self):
        words = []
        for net in SMALL:
            for feeds in some_feeds(net)[:3]:
                for wire in range(len(net)):
                    told = most_current(net, feeds, wire)
                    self.assertTrue(self.is_right(net, feeds, wire, told), (net.wires, feeds, wire, told))
                    self.assertIs(is_most_current(net, feeds, wire, told), True)
                    words.append(told[0] if told[-1] is not None else "own")
        for word in ("most", "endless", "cut", "own"):
            self.assertGreater(words.count(word), 20)

    def test_ends_by_trying_all(self):
        for net in [net for net in SMALL if len(net) <= 3]:
            for feeds in some_feeds(net)[:2]:
                spans = [[x for x in range(-9, 10) if is_inside(currents_of(rise), x)] for _, _, rise in net.wires]
                rows = [row for row in itertools.product(*spans) if does_bear(net, feeds, row)]
                for wire in range(len(net)):
                    if not rows:
                        assert_raises(self, Refused, None, current_ends, net, feeds, wire)
                        continue
                    numbers = {row[wire] for row in rows}
                    least, most = min(numbers), max(numbers)
                    self.assertEqual(current_ends(net, feeds, wire),
                                     (None if least < -5 else least, None if most > 5 else most))
                    self.assertEqual(numbers, set(range(least, most + 1)))

    def test_ends_are_those_of_both_ways(self):
        for net in SMALL:
            for feeds in some_feeds(net):
                word, told = fed_or_cut(net, feeds)
                for wire in range(len(net)):
                    if word == "cut":
                        with self.assertRaises(Refused) as caught:
                            current_ends(net, feeds, wire)
                        self.assertIn(caught.exception.reason[1], fighting_cuts(net, feeds))
                        self.assertEqual(caught.exception.reason[0], "cut")
                        continue
                    least, most = current_ends(net, feeds, wire)
                    answer = most_current(net, feeds, wire)
                    self.assertEqual(most, answer[1] if answer[0] == "most" else None)
                    self.assertTrue(is_inside((least, most), told[wire]))

    def test_judge_takes_every_right_paper(self):
        for net in [net for net in SMALL if 1 <= len(net) <= 3]:
            feeds = some_feeds(net)[1]
            knots = [None] + all_cuts(net)
            for wire in range(len(net)):
                right_rows = [row for row in windows(len(net), 3) if does_bear(net, feeds, row)]
                for row in right_rows[:12] + list(windows(len(net), 1))[wire::5]:
                    values = [("most", row[wire] + more, row, cut) for cut in knots for more in (0, 1)]
                    values += [("endless", row, loop) for loop in all_loops(net)]
                    for value in values + [("cut", cut) for cut in all_cuts(net)]:
                        right = self.is_right(net, feeds, wire, value)
                        self.assertIs(is_most_current(net, feeds, wire, value), right, (net.wires, feeds, wire, value))

    def test_judge(self):
        zero = (0, 0, 0)
        right = [("most", 4, (2, 2, 4, 4), (2,)), ("most", 4, (1, 3, 4, 4), (2,)), ("most", 4, (-2, 6, 4, 4), (2,))]
        wrong = [("most", 4, (2, 2, 4, 4), None), ("most", 4, (2, 2, 4, 4), (1, 2)), ("most", 4, [2, 2, 4, 4], (2,)),
                 ("most", 4, (2, 2, 4, 4), [2]), ("most", 4, (2, 2, 4, 4)), ("most", 3, (2, 1, 3, 3), (2,)),
                 ("most", 4, (3, 1, 4, 4), (2,)), ("most", 5, (2, 3, 5, 5), (2,)), ("most", 4, (2, 2, 4, 4), ()),
                 ("most", 4, (2, 2, 4), (2,)), ("Most", 4, (2, 2, 4, 4), (2,)), ("cut", (2,)), ("cut", ()),
                 ("endless", (2, 2, 4, 4), ((3, 1), (0, 1), (2, 1))), ("most", 4, (2, 2, 4, 4), (2,), 0),
                 ["most", 4, (2, 2, 4, 4), (2,)], ("most", None, (2, 2, 4, 4), (2,)), ("endless", (2, 2, 4, 4))]
        assert_judges(self, is_most_current, (LANES, zero, 3), right, wrong)
        right = [("most", 4, (2, 2, 4, 4), None), ("most", 4, (1, 3, 4, 4), None)]
        assert_judges(self, is_most_current, (LANES, zero, 2), right, wrong[4:] + [("most", 4, (2, 2, 4, 4), (1,))])

    def test_judge_of_true_and_long_numbers(self):
        net = Net(2, ((0, 1, ("plumb", 1)), (1, 0, ("steep", ((0, 0), (1, 0))))))
        right = [("most", 1, (1, 1), None), ("most", 1, (1, 1), (0,))]
        wrong = [("most", True, (1, 1), None), ("most", 1, (True, 1), None), ("most", 1, (1, 1), (False,)),
                 ("most", 1, (1, True), (0,)), ("most", 10 ** 99, (1, 1), None), ("most", 1, (1, 10 ** 99), None)]
        assert_judges(self, is_most_current, (net, (0, 0), 0), right, wrong)
        right = [("endless", (n, n), loop) for n in (0, 5, 10 ** 99) for loop in (((0, 1), (1, 1)), ((1, 1), (0, 1)))]
        wrong = [("endless", (-1, -1), ((0, 1), (1, 1))), ("endless", (0, 0), ((0, -1), (1, -1))), ("endless", (0, 0), ()),
                 ("endless", (False, 0), ((0, 1), (1, 1))), ("endless", (0, 0), ((0, True), (1, 1))), ("endless", (0, 0)),
                 ("endless", (0, 0), ((0, 1),)), ("endless", (1, 0), ((0, 1), (1, 1))), ("most", 0, (0, 0), None),
                 ("Endless", (0, 0), ((0, 1), (1, 1))), ("endless", ((0, 1), (1, 1)), (0, 0)), ("cut", (0,))]
        assert_judges(self, is_most_current, (LOOPED, (0, 0), 0), right, wrong)
        fuse = Net(2, ((0, 1, FUSE),))
        wrong = [("Cut", (1,)), ("loop", (1,)), (None, (1,)), ("cut", (0,)), ("cut", (True,)), ("cut", [1]), ["cut", (1,)], ("cut", (1,), 0),
                 ("most", 2, (2,), None), ("most", 3, (3,), None), ("cut", None, (1,)), ("endless", (1,)), (1,)]
        assert_judges(self, is_most_current, (fuse, (3, -3), 0), [("cut", (1,))], wrong)
        self.assertIn(most_current(LOOPED, (0, 0), 0), right)
        self.assertEqual(current_ends(LOOPED, (0, 0), 0), (0, None))

    def test_wires_beside_one_another(self):
        net = Net(2, ((0, 1, FUSE), (0, 1, FUSE), (1, 0, FUSE), (1, 0, ("plumb", 1))))
        self.assertEqual([current_ends(net, (0, 0), wire) for wire in range(4)], [(-2, 2), (-2, 2), (-2, 2), (1, 1)])
        self.assertEqual([current_ends(net, (4, -4), wire) for wire in range(4)], [(1, 2), (1, 2), (-2, -1), (1, 1)])
        self.assertEqual(most_current(net, (5, -5), 0), ("most", 2, (2, 2, -2, 1), None))
        self.assertIs(is_most_current(net, (5, -5), 2, ("most", -2, (2, 2, -2, 1), (1,))), True)
        self.assertIs(is_most_current(net, (6, -6), 2, ("cut", (1,))), True)

    def test_a_bridge(self):
        net = Net(3, ((0, 1, ("level", 0)), (1, 2, ("level", 0))))
        self.assertEqual(most_current(net, (3, 0, -3), 0)[:3], ("most", 3, (3, 3)))
        self.assertIs(is_most_current(net, (3, 0, -3), 1, ("most", 3, (3, 3), (0, 1))), True)
        self.assertIs(is_most_current(net, (3, 0, -3), 1, ("most", 3, (3, 3), (1,))), False)
        self.assertEqual(current_ends(net, (3, 0, -3), 1), (3, 3))

    def test_not_all_at_once(self):
        net = Net(2, ((0, 1, FUSE), (0, 1, FUSE), (1, 0, ("plumb", 3))))
        self.assertEqual([current_ends(net, (0, 0), wire) for wire in (0, 1)], [(1, 2), (1, 2)])
        self.assertIs(is_within(net, (0, 0), (2, 2, 3)), False)


class RefusalTests(unittest.TestCase):
    def test_refusals(self):
        no_feeds = (no_rows(3) + [(1, 0, 0), (0, 0, -1), (SIXTY, SIXTY, SIXTY)], InvalidFeed, None)
        bad_wire = (NO_INTEGERS + [-1, 4, 10], InvalidNumber, "given")
        feeds = (1, 1, -2)
        for function in (current_ranges, currents_or_cut):
            assert_refusals(self, function, [LANES], {0: BAD_NET})
        assert_refusals(self, fed_or_cut, [LANES, feeds], {0: BAD_NET, 1: no_feeds})
        for function in (is_within, is_fed_or_cut):
            assert_refusals(self, function, [LANES, feeds, None], {0: BAD_NET, 1: no_feeds})
        for function in (most_current, current_ends):
            assert_refusals(self, function, [LANES, feeds, 1], {0: BAD_NET, 1: no_feeds, 2: bad_wire})
        assert_refusals(self, is_most_current, [LANES, feeds, 1, None], {0: BAD_NET, 1: no_feeds, 2: bad_wire})

    def test_what_comes_then_is_last(self):
        net = Net(2, ((0, 1, FUSE),))
        assert_raises(self, Refused, ("reason", ("cut", (1,))), current_ends, net, (3, -3), 0)
        assert_raises(self, InvalidNumber, ("given", 1), current_ends, net, (3, -3), 1)
        assert_raises(self, InvalidNumber, ("given", 0), current_ends, Net(1, ()), (0,), 0)
        assert_raises(self, InvalidFeed, None, current_ends, net, (3, 3), 1)
        self.assertEqual(most_current(net, (3, -3), 0), ("cut", (1,)))

    def test_judges_of_other_values(self):
        wrong = [(1, 1, 2), (1, 1, 2, 2, 0), [1, 1, 2, 2], (True, 1, 2, 2), (1, 1, 2, None), (LONG, 1, 2, 2), (3, -1, 2, 2),
                 (1, 1, 2, 3), ("currents", (1, 1, 2, 2))]
        right = [(1, 1, 2, 2), (2, 0, 2, 2), (-2, 4, 2, 2)]
        assert_judges(self, is_within, (LANES, (0, 0, 0)), right, wrong)
        wrong = [("currents", value) for value in wrong + JUNK] + [("cut", value) for value in JUNK] + wrong
        wrong += [("currents", right[0], 0), ["currents", right[0]], ("Currents", right[0]), ("cut", right[0]), right[0]]
        assert_judges(self, is_fed_or_cut, (LANES, (0, 0, 0)), [("currents", value) for value in right], wrong)
        wrong = [("cut", value) for value in ((0,), (0, 1), (), [1], (1, 1), (True,), (2,), (-1,), None)]
        assert_judges(self, is_fed_or_cut, (plain_net(2, ((0, 1),), FUSE), (3, -3)), [("cut", (1,))],
                      wrong + [("currents", (3,)), ("currents", (1,)), ("loop", (1,))])
        assert_judges(self, is_fed_or_cut, (plain_net(2, ((0, 1),), STAIRS), (SIXTY, -SIXTY)), [("currents", (SIXTY,))],
                      [("currents", (LONG,)), ("cut", (1,)), ("cut", (0,))])


if __name__ == "__main__":
    unittest.main()
