"""Stage 8: heights that fit, or a loop."""

import itertools
import unittest

from helpers import (
    BATTERY, DIODE, JUNK, LONG, NEAR, NETS, NO_INTEGERS, SIXTY, STAIRS, all_cuts, all_loops, all_ways, assert_judges,
    assert_raises, assert_refusals, barring_loops, digits, dressed_nets, great_net, is_inside, loop_sum, plain_net, spread,
    windows)
from risenets.errors import InvalidNumber, InvalidOperation, Refused
from risenets.fit.heights import (
    do_fit, greatest_row, heights_or_loop, is_barring, is_most_apart, least_row, most_apart, spans_of)
from risenets.net.nets import Net, drops
from risenets.rise.rises import tensions_of
from test_nets import BAD_NET, no_rows

LIT, JAM = Net(2, ((0, 1, BATTERY), (1, 0, DIODE))), Net(2, ((0, 1, BATTERY), (0, 1, DIODE)))
LINE, SPANS = Net(3, ((0, 1, STAIRS), (1, 2, STAIRS))), ((1, 3), (0, None))


def some_ranges(net, salt):
    """Ranges for the net, some without an end on one side or on both."""
    found = []
    for k, number in enumerate(spread(len(net), 3, salt)):
        low, high = number, number + k % 3
        found.append(((low, high), (low, None), (None, high), (low, low), (None, None), (low - 1, high + 1))[(k + salt) % 6])
    return tuple(found)


CASES = [(net, some_ranges(net, salt)) for net in NETS for salt in range(12)]


def fits(net, ranges, heights):
    """Whether each tension is of its range."""
    return all(is_inside(span, tension) for span, tension in zip(ranges, drops(net, heights)))


def length_of(way, ranges):
    """The length of a way, None if it has none."""
    total = loop_sum(way, ranges)
    return None if total is None else -total


def least_length(net, ranges, start, goal):
    """The least length of all ways from the one knot to the other one, None if none has one."""
    found = [length_of(way, ranges) for way in all_ways(net, start, goal)]
    return min([length for length in found if length is not None], default=None)


def is_lot(net, ranges, start, goal, knots):
    """Whether the knots have the goal, not the start, and can be raised without end."""
    if goal not in knots or start in knots:
        return False
    for (tail, head, _), (low, high) in zip(net.wires, ranges):
        if tail in knots and head not in knots and high is not None:
            return False
        if tail not in knots and head in knots and low is not None:
            return False
    return True


class EitherOrTests(unittest.TestCase):
    def test_spans(self):
        self.assertEqual(spans_of(LIT), ((5, 5), (None, 0)))
        self.assertEqual(spans_of(Net(3, ())), ())
        for net in dressed_nets(NETS, 3) + [great_net(("flat", "steep"), 2)]:
            self.assertEqual(spans_of(net), tuple(tensions_of(rise) for _, _, rise in net.wires))

    def test_either_or(self):
        words = []
        for net, ranges in CASES:
            bars = barring_loops(net, ranges)
            word, told = heights_or_loop(net, ranges)
            words.append(word)
            self.assertEqual(word, "loop" if bars else "heights")
            if bars:
                self.assertIn(told, bars)
                self.assertIs(is_barring(net, ranges, told), True)
            else:
                self.assertTrue(fits(net, ranges, told) and len(told) == net.knots)
                self.assertIs(do_fit(net, ranges, told), True)
            for loop in all_loops(net):
                self.assertIs(is_barring(net, ranges, loop), loop in bars)
        self.assertGreater(min(words.count("loop"), words.count("heights")), 30)

    def test_do_fit_is_what_its_words_say(self):
        for net, ranges in CASES:
            if net.knots <= 3:
                for heights in windows(net.knots, 4):
                    self.assertIs(do_fit(net, ranges, heights), fits(net, ranges, heights))

    def test_no_wires(self):
        self.assertEqual(heights_or_loop(Net(1, ()), ())[0], "heights")
        self.assertEqual(greatest_row(Net(1, ()), (), 0), (0,))
        self.assertEqual(least_row(Net(3, ()), (), 1), (None, 0, None))
        self.assertEqual(most_apart(Net(1, ()), (), 0, 0), ("most", 0, ()))
        self.assertEqual(most_apart(Net(2, ()), (), 0, 1), ("endless", (1,)))

    def test_far(self):
        net = plain_net(3, ((0, 1), (1, 2), (2, 0)))
        far = SIXTY // 3
        ranges = ((far, far), (far, far), (-2 * far, -2 * far))
        word, told = heights_or_loop(net, ranges)
        self.assertEqual((word, drops(net, told)), ("heights", (far, far, -2 * far)))
        word, told = heights_or_loop(net, ranges[:2] + ((1 - 2 * far, SIXTY),))
        self.assertEqual((word, len(told)), ("loop", 3))
        self.assertIs(do_fit(net, ranges, (2 * far + 10 ** 99, far + 10 ** 99, 10 ** 99)), True)
        self.assertIs(do_fit(net, ranges, (2 * far + 10 ** 99, far + 10 ** 99, 10 ** 99 + 1)), False)

    def test_great_nets(self):
        for salt, most in itertools.product(range(4), (NEAR, 10 ** 30 - 1)):
            net = great_net(("flat", "steep"), salt)
            lows = spread(24, 1000, salt)
            ranges = tuple((most // 2000 * low, most // 1000 * (low + 1500) if k % 5 else None) for k, low in enumerate(lows))
            word, told = heights_or_loop(net, ranges)
            self.assertIs((do_fit if word == "heights" else is_barring)(net, ranges, told), True)
            self.assertLessEqual(digits(told), 60)
            if word == "heights":
                for start, goal in ((0, 11), (5, 2)):
                    told = most_apart(net, ranges, start, goal)
                    self.assertIs(is_most_apart(net, ranges, start, goal, told), True)
                    self.assertLessEqual(digits(told), 60)

    def test_judges(self):
        right = [(7, 2), (0, -5), (10 ** 99 + 5, 10 ** 99), (-10 ** 99, -10 ** 99 - 5)]
        wrong = [(7, 3), (2, 7), (True, -4), (5, False), [7, 2], (7,), (7, 2, 0), (7, None), "72", (10 ** 99, 0)]
        assert_judges(self, do_fit, (LIT, spans_of(LIT)), right, wrong)
        loops = [((0, 1), (1, -1)), ((1, -1), (0, 1))]
        wrong = [((0, -1), (1, 1)), ((1, 1), (0, -1)), ((0, 1), (1, 1)), ((0, 1),), [(0, 1), (1, -1)], ((0, True), (1, -1)),
                 ((False, 1), (1, -1)), ([0, 1], [1, -1]), (), ((0, 1), (1, -1), (0, 1)), ((0, 1), (2, -1)), (0, 1)]
        assert_judges(self, is_barring, (JAM, spans_of(JAM)), loops, wrong)
        assert_judges(self, is_barring, (LIT, spans_of(LIT)), [], loops + wrong)
        assert_judges(self, is_barring, (JAM, ((None, 9), (None, None))), [], loops + wrong)
        self.assertIs(is_barring(JAM, ((SIXTY, None), (None, -SIXTY)), loops[0]), True)
        self.assertIs(is_barring(JAM, ((0, 0), (0, 0)), loops[0]), False)

    def test_a_loop_that_bars_need_not_have_a_wire_of_each_way(self):
        net = plain_net(3, ((0, 1), (1, 2), (2, 0)))
        self.assertEqual(heights_or_loop(net, ((1, None),) * 3)[0], "loop")
        self.assertIs(is_barring(net, ((1, None),) * 3, ((0, 1), (1, 1), (2, 1))), True)


class RowTests(unittest.TestCase):
    def test_rows(self):
        for net, ranges in CASES:
            bars = barring_loops(net, ranges)
            for ground in range(net.knots):
                if bars:
                    for function in (greatest_row, least_row):
                        with self.assertRaises(Refused) as caught:
                            function(net, ranges, ground)
                        self.assertEqual(caught.exception.reason[0], "loop")
                        self.assertIn(caught.exception.reason[1], bars)
                    continue
                most = [least_length(net, ranges, ground, knot) for knot in range(net.knots)]
                least = [least_length(net, ranges, knot, ground) for knot in range(net.knots)]
                self.assertEqual(greatest_row(net, ranges, ground), tuple(most))
                self.assertEqual(least_row(net, ranges, ground), tuple(n if n is None else -n for n in least))

    def test_rows_by_trying_all(self):
        for net, ranges in CASES:
            if net.knots > 3 or barring_loops(net, ranges):
                continue
            rows = [heights for heights in windows(net.knots, 12) if heights[0] == 0 and fits(net, ranges, heights)]
            for knot in range(net.knots):
                numbers = [heights[knot] for heights in rows]
                most, least = greatest_row(net, ranges, 0)[knot], least_row(net, ranges, 0)[knot]
                # What has no end is held by the window alone.
                self.assertEqual(max(numbers) if max(numbers) <= 6 else None, most)
                self.assertEqual(min(numbers) if min(numbers) >= -6 else None, least)

    def test_rows_fit_where_they_have_no_gaps(self):
        shown = 0
        for net, ranges in CASES:
            if barring_loops(net, ranges):
                continue
            for row in (greatest_row(net, ranges, 0), least_row(net, ranges, 0)):
                if None not in row:
                    self.assertTrue(fits(net, ranges, row))
                    shown += 1
        self.assertGreater(shown, 20)

    def test_lesser_and_greater_rows_fit(self):
        for heights, other in (((0, -1, -1), (0, -3, -9)), ((0, -2, -2), (1, -1, -5))):
            self.assertTrue(fits(LINE, SPANS, heights) and fits(LINE, SPANS, other))
            for choose in (min, max):
                self.assertIs(do_fit(LINE, SPANS, tuple(map(choose, heights, other))), True)

    def test_examples(self):
        self.assertEqual(greatest_row(LINE, SPANS, 2), (None, None, 0))
        self.assertEqual(least_row(LINE, SPANS, 2), (1, 0, 0))
        self.assertEqual(greatest_row(LINE, ((-5, -5), (0, None)), 0), (0, 5, 5))


class ApartTests(unittest.TestCase):
    def test_most_apart(self):
        words = []
        for net, ranges in CASES:
            bars = barring_loops(net, ranges)
            for start, goal in itertools.product(range(min(net.knots, 4)), repeat=2):
                if bars:
                    for function, more in ((most_apart, ()), (is_most_apart, (None,))):
                        with self.assertRaises(Refused) as caught:
                            function(net, ranges, start, goal, *more)
                        self.assertIn(caught.exception.reason, [("loop", loop) for loop in bars])
                    continue
                told = most_apart(net, ranges, start, goal)
                words.append(told[0])
                least = least_length(net, ranges, start, goal)
                if least is None:
                    self.assertEqual(told[0], "endless")
                    self.assertEqual(tuple(sorted(told[1])), told[1])
                    self.assertTrue(is_lot(net, ranges, start, goal, told[1]))
                else:
                    self.assertEqual(told[:2], ("most", least))
                    self.assertIn(told[2], all_ways(net, start, goal))
                    self.assertEqual(length_of(told[2], ranges), least)
                self.assertIs(is_most_apart(net, ranges, start, goal, told), True)
        self.assertGreater(min(words.count("most"), words.count("endless")), 50)

    def test_judge_takes_every_right_paper(self):
        for net, ranges in CASES:
            if barring_loops(net, ranges) or net.knots > 4:
                continue
            for start, goal in itertools.product(range(net.knots), repeat=2):
                least = least_length(net, ranges, start, goal)
                for way in all_ways(net, start, goal):
                    length = length_of(way, ranges)
                    for number in {least or 0, length or 0, (length or 0) + 1}:
                        right = length is not None and length == least == number
                        value = ("most", number, way)
                        self.assertIs(is_most_apart(net, ranges, start, goal, value), right)
                for cut in all_cuts(net):
                    right = is_lot(net, ranges, start, goal, cut)
                    self.assertIs(is_most_apart(net, ranges, start, goal, ("endless", cut)), right)

    def test_judge(self):
        right = [("most", -1, ((0, 1), (1, 1)))]
        wrong = [("most", -1, ((0, 1),)), ("most", -1, ((1, 1), (0, 1))), ("most", 0, ((0, 1), (1, 1))), ("most", -1, ()),
                 ("most", -1, [(0, 1), (1, 1)]), ("most", -1, ((0, True), (1, 1))), ("most", -1), ("endless", (2,)),
                 ("Most", -1, ((0, 1), (1, 1))), ("most", None, ((0, 1), (1, 1))), ["most", -1, ((0, 1), (1, 1))],
                 ("most", -1, ((0, 1), (0, -1), (0, 1), (1, 1))), ("most", -1, ((0, 1), (1, 1)), 0), ("endless", (1, 2))]
        assert_judges(self, is_most_apart, (LINE, SPANS, 0, 2), right, wrong)
        wrong = [("endless", value) for value in ((0,), (1,), (1, 0), [0, 1], (0, 1, 2), (), (False, 1), (0, True), None)]
        wrong += [("most", 0, ((1, -1), (0, -1))), ("Endless", (0, 1)), ("endless", (0, 1), 0), ["endless", (0, 1)]]
        assert_judges(self, is_most_apart, (LINE, SPANS, 2, 0), [("endless", (0, 1))], wrong)
        wrong = [("most", 0, ((0, 1), (0, -1))), ("most", False, ()), ("most", 1, ()), ("endless", (0,)), ("endless", ())]
        assert_judges(self, is_most_apart, (LINE, SPANS, 0, 0), [("most", 0, ())], wrong)
        net = Net(2, ((0, 1, BATTERY), (0, 1, BATTERY)))
        right = [("most", -1, ((0, 1),)), ("most", -1, ((1, 1),))]
        assert_judges(self, is_most_apart, (net, ((1, 2), (1, 3)), 0, 1), right, [("most", -1, ((0, 1), (1, 1)))])
        assert_judges(self, is_most_apart, (net, ((-1, 2), (-1, 3)), 0, 1), [("most", 1, step) for step in (((0, 1),), ((1, 1),))],
                      [("most", True, ((0, 1),)), ("most", 10 ** 99, ((0, 1),)), ("most", 1, ((0, -1),))])


class RefusalTests(unittest.TestCase):
    def test_refusals(self):
        no_ranges = [value for value in JUNK if value not in ((None, None), ())] + [
            (), ((1, 3),), ((1, 3), (0, None), (0, 0)), [(1, 3), (0, None)], ((1, 3), [0, None]), ((3, 1), (0, None)),
            ((1, True), (0, None)), ((1, 3), (0, LONG)), ((1, 3), (-LONG, None)), ((1, 3, 5), (0, None)), ((1, 3), None),
            ((1, 3), ("0", None)), ((1, 3), (0,)), (1, 3), ((None, 10 ** 99), (0, None)), 0, LONG]
        bad_ranges = (no_ranges, InvalidOperation, None)
        bad_knot = (NO_INTEGERS + [-1, 3, 10], InvalidNumber, "given")
        assert_refusals(self, spans_of, [LINE], {0: BAD_NET})
        assert_refusals(self, heights_or_loop, [LINE, SPANS], {0: BAD_NET, 1: bad_ranges})
        for function in (do_fit, is_barring):
            assert_refusals(self, function, [LINE, SPANS, None], {0: BAD_NET, 1: bad_ranges})
        for function in (greatest_row, least_row):
            assert_refusals(self, function, [LINE, SPANS, 0], {0: BAD_NET, 1: bad_ranges, 2: bad_knot})
        wrongs = {0: BAD_NET, 1: bad_ranges, 2: bad_knot, 3: bad_knot}
        assert_refusals(self, most_apart, [LINE, SPANS, 0, 1], wrongs)
        assert_refusals(self, is_most_apart, [LINE, SPANS, 0, 1, None], wrongs)

    def test_what_comes_then_is_last(self):
        ranges = spans_of(JAM)
        for function in (greatest_row, least_row):
            assert_raises(self, InvalidNumber, ("given", 2), function, JAM, ranges, 2)
            assert_raises(self, Refused, None, function, JAM, ranges, 1)
        for function, more in ((most_apart, ()), (is_most_apart, (None,))):
            assert_raises(self, InvalidNumber, ("given", True), function, JAM, ranges, True, 7, *more)
            assert_raises(self, InvalidNumber, ("given", 7), function, JAM, ranges, 1, 7, *more)
            assert_raises(self, Refused, None, function, JAM, ranges, 1, 1, *more)

    def test_rows_are_no_ranges(self):
        for value in no_rows(2)[-6:]:
            assert_raises(self, InvalidOperation, None, heights_or_loop, LINE, value)


if __name__ == "__main__":
    unittest.main()
