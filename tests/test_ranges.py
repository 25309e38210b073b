"""Stage 1: ranges."""

import itertools
import unittest

from helpers import JUNK, LONG, NO_INTEGERS, SIXTY, assert_judges, assert_raises, assert_refusals
from risenets.base.ranges import (
    added_ranges, all_shared, is_all_shared, is_in, is_range, less_range, nearest, shared_range, turned_range)
from risenets.errors import InvalidNumber, InvalidOperation

ENDS = (None, -2, -1, 0, 1, 2)
SPANS = [(a, b) for a in ENDS for b in ENDS if a is None or b is None or a <= b]
FAR = 12
NO_RANGES = JUNK + [
    0, 1, LONG, (1, 0), (0, -1), (0,), (0, 0, 0), (True, 1), (0, True), (None, LONG), (-LONG, None), (0, LONG),
    (-LONG, LONG), [0, 1], (None,), (None, None, None), ("0", 1), ((0, 1),), (None, (1,)), (10 ** 99, None)]


def numbers(span, far=FAR):
    """The numbers of a span, up to a number in size."""
    return {n for n in range(-far, far + 1)
            if (span[0] is None or span[0] <= n) and (span[1] is None or n <= span[1])}


class OneRangeTests(unittest.TestCase):
    def test_is_range(self):
        right = SPANS + [(SIXTY, None), (None, -SIXTY), (-SIXTY, SIXTY), (SIXTY, SIXTY)]
        assert_judges(self, is_range, (), right, NO_RANGES)

    def test_is_in(self):
        for span in SPANS:
            inside = numbers(span)
            for number in range(-5, 6):
                self.assertIs(is_in(span, number), number in inside)
            for value in JUNK + [(0,), (span,), span]:
                self.assertIs(is_in(span, value), False)
        self.assertIs(is_in((0, 1), True), False)
        self.assertIs(is_in((0, 1), False), False)

    def test_is_in_takes_integers_of_any_length(self):
        self.assertIs(is_in((0, None), 10 ** 99), True)
        self.assertIs(is_in((0, None), -10 ** 99), False)
        self.assertIs(is_in((None, None), LONG), True)
        self.assertIs(is_in((None, SIXTY), LONG), False)

    def test_nearest(self):
        for span in SPANS:
            for number in range(-5, 6):
                told = nearest(span, number)
                self.assertEqual(abs(told - number), min(abs(n - number) for n in numbers(span)))
                self.assertIn(told, numbers(span))
        self.assertEqual(nearest((None, 3), SIXTY), 3)
        self.assertEqual(nearest((None, None), -SIXTY), -SIXTY)

    def test_nearest_ones_are_never_farther_apart(self):
        for span in SPANS:
            for one, other in itertools.combinations(range(-4, 5), 2):
                apart = nearest(span, other) - nearest(span, one)
                self.assertTrue(0 <= apart <= other - one)

    def test_turned(self):
        for span in SPANS:
            self.assertEqual(numbers(turned_range(span)), {-n for n in numbers(span)})
            self.assertEqual(turned_range(turned_range(span)), span)
        self.assertEqual(turned_range((None, 4)), (-4, None))


class TwoRangesTests(unittest.TestCase):
    def test_added(self):
        for one, other in itertools.product(SPANS, repeat=2):
            told = added_ranges(one, other)
            sums = {a + b for a in numbers(one, 20) for b in numbers(other, 20)}
            self.assertEqual(numbers(told), sums & numbers((None, None)))

    def test_less(self):
        for one, other in itertools.product(SPANS, repeat=2):
            told = less_range(one, other)
            differences = {a - b for a in numbers(one, 20) for b in numbers(other, 20)}
            self.assertEqual(numbers(told), differences & numbers((None, None)))

    def test_what_is_added_and_taken_off_need_not_be_the_same(self):
        self.assertEqual(less_range(added_ranges((0, 1), (0, 1)), (0, 1)), (-1, 2))

    def test_shared(self):
        for one, other in itertools.product(SPANS, repeat=2):
            told = shared_range(one, other)
            both = numbers(one) & numbers(other)
            self.assertEqual(set() if told is None else numbers(told), both)
        self.assertEqual(shared_range((1, 5), (5, None)), (5, 5))
        self.assertIsNone(shared_range((None, -1), (0, None)))

    def test_long_sums(self):
        self.assertEqual(added_ranges((SIXTY, None), (SIXTY, None)), (2 * SIXTY, None))
        self.assertEqual(less_range((None, SIXTY), (-SIXTY, 0)), (None, 2 * SIXTY))


class AllSharedTests(unittest.TestCase):
    def test_either_or(self):
        for spans in itertools.product(SPANS[::2], repeat=3):
            together = numbers(spans[0]) & numbers(spans[1]) & numbers(spans[2])
            told = all_shared(spans)
            if together:
                self.assertEqual((told[0], numbers(told[1])), ("shared", together))
            else:
                word, i, j = told
                self.assertEqual(word, "apart")
                self.assertLess(max(numbers(spans[i])), min(numbers(spans[j])))
            self.assertIs(is_all_shared(spans, told), True)

    def test_one_and_hundred(self):
        self.assertEqual(all_shared(((None, None),)), ("shared", (None, None)))
        self.assertEqual(all_shared(((3, 4),)), ("shared", (3, 4)))
        spans = tuple((k, 100) for k in range(100))
        self.assertEqual(all_shared(spans), ("shared", (99, 100)))
        self.assertEqual(all_shared(((SIXTY, None), (None, SIXTY))), ("shared", (SIXTY, SIXTY)))

    def test_neighbours_that_share_are_not_enough(self):
        self.assertEqual(all_shared(((0, 1), (1, 2), (2, 3))), ("apart", 0, 2))

    def test_judge_shared(self):
        spans = ((0, 5), (None, 1), (0, None))
        wrong = [("shared", (0, 0)), ("shared", (0, True)), ("shared", (False, 1)), ("shared", [0, 1]), ("shared",),
                 ("shared", None), ("shared", (0, 2)), ("shared", (None, 1)), ["shared", (0, 1)], ("shared", (0, 1), 0),
                 ("apart", 0, 1), ("apart", 1, 0), (0, 1), ("apart", 1, 1), ("Shared", (0, 1)), ("shared", (0, LONG))]
        assert_judges(self, is_all_shared, (spans,), [("shared", (0, 1))], wrong)

    def test_judge_apart_takes_all_right_ones(self):
        spans = ((0, 1), (2, 3), (None, None), (4, None), (None, -1))
        right = [("apart", i, j) for i, j in ((0, 1), (0, 3), (1, 3), (4, 0), (4, 1), (4, 3))]
        wrong = [("apart", i, j) for i in range(-5, 7) for j in range(-5, 7) if ("apart", i, j) not in right]
        wrong += [("apart", False, 1), ("apart", 0, True), ("apart", 4, False), ("apart", 0, 10 ** 99), ["apart", 0, 1],
                  ("apart", (0, 1)), ("apart", 0), ("apart", 0, 1, 3), ("apart", "0", 1), ("shared", None),
                  ("shared", (None, None)), ("Apart", 0, 1), (None, 0, 1)]
        assert_judges(self, is_all_shared, (spans,), right, wrong)


class RefusalTests(unittest.TestCase):
    def test_refusals(self):
        bad_span = (NO_RANGES, InvalidOperation, None)
        assert_refusals(self, is_in, [(0, 1), 0], {0: bad_span})
        assert_refusals(self, nearest, [(0, 1), 0], {0: bad_span, 1: (NO_INTEGERS, InvalidNumber, "given")})
        assert_refusals(self, turned_range, [(0, 1)], {0: bad_span})
        for function in (added_ranges, less_range, shared_range):
            assert_refusals(self, function, [(0, 1), (0, 1)], {0: bad_span, 1: bad_span})

    def test_refusals_of_spans(self):
        wrong = [value for value in JUNK if value != ()] + [(), 0, LONG, [(0, 1)], (0, 1), ((0, 1),) * 101]
        wrong += [((0, 1), value) for value in NO_RANGES]
        assert_refusals(self, all_shared, [((0, 1),)], {0: (wrong, InvalidOperation, None)})
        assert_refusals(self, is_all_shared, [((0, 1),), 0], {0: (wrong, InvalidOperation, None)})
        self.assertEqual(all_shared(((0, 1),) * 100), ("shared", (0, 1)))

    def test_first_error_is_told(self):
        assert_raises(self, InvalidOperation, None, nearest, (1, 0), None)
        assert_raises(self, InvalidNumber, ("given", None), nearest, (0, 1), None)


if __name__ == "__main__":
    unittest.main()
