"""Stage 3: rises put together."""

import itertools
import unittest

from helpers import (
    BATTERY, DIODE, FUSE, LONG, NO_INTEGERS, NO_RISES, SIXTY, STAIRS, STEPS, assert_judges, assert_raises,
    assert_refusals, small_rises, stair, walked)
from risenets.errors import InvalidNumber, InvalidRise, Refused, TooMany
from risenets.rise.joins import (
    beside, in_row, is_meeting, is_parting, meeting, meetings, moved, parting, transposed, turned)
from risenets.rise.rises import currents_of, is_on, is_rise, tensions_at, tensions_of

BIG = 10 ** 18
RISES = small_rises()
PAIRS = list(itertools.product(RISES[::3] + [FUSE, DIODE], repeat=2))
BAD_RISE = (NO_RISES, InvalidRise, None)
BAD_NUMBER = (NO_INTEGERS, InvalidNumber, "given")
NEAR = 10


def near(points):
    """The points that are not far."""
    return {(x, y) for x, y in points if abs(x) <= NEAR and abs(y) <= NEAR}


def side_sums(one, other):
    """The near points of both rises side by side, point by point."""
    by_tension = {}
    for x, y in walked(other, 45):
        by_tension.setdefault(y, []).append(x)
    return near({(x + u, y) for x, y in walked(one, 45) if abs(y) <= NEAR for u in by_tension.get(y, ())})


class OneRiseTests(unittest.TestCase):
    def test_turned(self):
        for rise in RISES:
            told = turned(rise)
            self.assertEqual(near(walked(told, 30)), {(-x, -y) for x, y in near(walked(rise, 30))})
            self.assertTrue(is_rise(told))
            self.assertEqual(turned(told), rise)

    def test_transposed(self):
        for rise in RISES:
            told = transposed(rise)
            self.assertEqual(near(walked(told, 30)), {(y, x) for x, y in near(walked(rise, 30))})
            self.assertTrue(is_rise(told))
            self.assertEqual(transposed(told), rise)

    def test_moved(self):
        for rise in RISES:
            for right, up in ((0, 0), (3, -1), (-2, 0), (0, 4)):
                told = moved(rise, right, up)
                self.assertEqual(near(walked(told, 40)), near({(x + right, y + up) for x, y in walked(rise, 40)}))
                self.assertTrue(is_rise(told))
                self.assertEqual(moved(told, -right, -up), rise)

    def test_many_corners(self):
        for first, count in itertools.product(("flat", "steep"), (399, 400)):
            rise = stair(first, count)
            self.assertEqual(turned(turned(rise)), rise)
            self.assertEqual(transposed(transposed(rise)), rise)
            self.assertTrue(is_rise(turned(rise)) and is_rise(transposed(rise)) and is_rise(moved(rise, 5, -5)))

    def test_moved_too_far(self):
        self.assertEqual(moved(DIODE, BIG, -BIG), ("steep", ((BIG, -BIG),)))
        assert_raises(self, TooMany, ("limit", BIG), moved, DIODE, BIG + 1, 0)
        assert_raises(self, TooMany, ("limit", BIG), moved, DIODE, 0, -BIG - 1)
        assert_raises(self, TooMany, ("limit", BIG), moved, ("level", 1), 0, BIG)
        assert_raises(self, TooMany, ("limit", BIG), moved, ("plumb", -1), -SIXTY, 0)
        self.assertEqual(moved(("level", 1), SIXTY, 0), ("level", 1))
        self.assertEqual(moved(("plumb", 1), 2, -SIXTY), ("plumb", 3))
        self.assertEqual(moved(FUSE, BIG - 2, 0), ("steep", ((BIG - 4, 0), (BIG, 0))))
        assert_raises(self, TooMany, ("limit", BIG), moved, FUSE, BIG - 1, 0)


class TwoRisesTests(unittest.TestCase):
    def test_beside_or_apart(self):
        for one, other in PAIRS:
            sums = side_sums(one, other)
            if sums:
                told = beside(one, other)
                self.assertTrue(is_rise(told))
                self.assertEqual(near(walked(told, 40)), sums, (one, other, told))
            else:
                assert_raises(self, Refused, ("reason", ("tensions",)), beside, one, other)

    def test_row_is_beside_transposed(self):
        for one, other in PAIRS:
            sums = {(x, y) for y, x in side_sums(transposed(one), transposed(other))}
            if sums:
                self.assertEqual(near(walked(in_row(one, other), 40)), sums)
            else:
                assert_raises(self, Refused, ("reason", ("currents",)), in_row, one, other)

    def test_sequence_and_turns(self):
        for one, other in PAIRS:
            for join in (beside, in_row):
                try:
                    told = join(one, other)
                except Refused:
                    continue
                self.assertEqual(join(other, one), told)
                self.assertEqual(join(turned(one), turned(other)), turned(told))

    def test_what_is_put_together_first(self):
        for one, other, third in itertools.product([DIODE, FUSE, STEPS, STAIRS, ("level", 0), ("plumb", 2)], repeat=3):
            for join in (beside, in_row):
                try:
                    told = join(join(one, other), third)
                except Refused:
                    continue
                self.assertEqual(join(one, join(other, third)), told)

    def test_ranges_that_touch_at_one_number(self):
        self.assertEqual(beside(DIODE, ("flat", ((0, 0),))), ("level", 0))
        self.assertEqual(beside(("level", 0), DIODE), ("level", 0))
        self.assertEqual(in_row(DIODE, ("flat", ((0, 0),))), ("plumb", 0))
        ends_at_3, begins_at_3 = ("steep", ((0, 1), (2, 1), (2, 3))), ("flat", ((5, 3), (5, 4)))
        self.assertEqual(beside(ends_at_3, begins_at_3), ("level", 3))
        assert_raises(self, Refused, ("reason", ("tensions",)), beside, ends_at_3, moved(begins_at_3, 0, 1))

    def test_straight_ones(self):
        self.assertEqual(beside(("plumb", 2), ("plumb", -5)), ("plumb", -3))
        self.assertEqual(in_row(("level", 2), ("level", -5)), ("level", -3))
        self.assertEqual(beside(("plumb", 2), ("level", 4)), ("level", 4))
        self.assertEqual(in_row(("plumb", 2), ("level", 4)), ("plumb", 2))
        self.assertEqual(beside(("level", 4), ("level", 4)), ("level", 4))
        assert_raises(self, Refused, ("reason", ("currents",)), in_row, ("plumb", 1), ("plumb", 2))

    def test_side_by_side_with_turned_is_not_always_a_level(self):
        self.assertNotEqual(beside(FUSE, turned(FUSE))[0], "level")

    def test_too_many(self):
        even, odd = stair("steep", 400, (0, 0), 2), stair("steep", 400, (0, 1), 2)
        assert_raises(self, TooMany, ("limit", 400), beside, even, odd)
        assert_raises(self, TooMany, ("limit", 400), in_row, transposed(even), transposed(odd))
        low, high = stair("steep", 200, (BIG - 999, 0), 2), stair("steep", 202, (BIG - 999, 9999), 2)
        assert_raises(self, TooMany, ("limit", 400), beside, low, high)
        assert_raises(self, TooMany, ("limit", BIG), beside, low, stair("steep", 200, (BIG - 999, 9999), 2))
        self.assertEqual(len(beside(stair("steep", 200), stair("steep", 200, (0, 9999)))[1]), 400)
        assert_raises(self, TooMany, ("limit", BIG), beside, ("plumb", BIG), ("plumb", 1))
        assert_raises(self, TooMany, ("limit", BIG), in_row, ("level", -BIG), ("level", -1))
        self.assertEqual(beside(("plumb", BIG), ("plumb", -BIG)), ("plumb", 0))
        assert_raises(self, Refused, ("reason", ("tensions",)), beside, ("level", BIG), ("level", -BIG))


class MeetingTests(unittest.TestCase):
    def test_either_or(self):
        for one, other in PAIRS:
            points = near(walked(one, 40)) & {(-x, y) for x, y in near(walked(other, 40))}
            told = meeting(one, other)
            self.assertIs(is_meeting(one, other, told), True)
            self.assertEqual(told[0], "met" if points else "apart", (one, other))
            if points:
                self.assertIn(told[1:], points)
            common = {y for _, y in walked(one, 40)} & {y for _, y in walked(other, 40)}
            zero = {x for x, _ in walked(one, 40)} & {-x for x, _ in walked(other, 40)}
            self.assertIs(is_meeting(one, other, ("apart", "tensions")), not common)
            self.assertIs(is_meeting(one, other, ("apart", "currents")), not zero)

    def test_box(self):
        for one, other in PAIRS:
            points = near(walked(one, 40)) & {(-x, y) for x, y in near(walked(other, 40))}
            if not points:
                assert_raises(self, Refused, ("reason", ("apart",)), meetings, one, other)
                continue
            (least, most), (low, high) = meetings(one, other)
            told = {(x, y) for x, y in itertools.product(range(-NEAR, NEAR + 1), repeat=2)
                    if (least is None or least <= x) and (most is None or x <= most)
                    and (low is None or low <= y) and (high is None or y <= high)}
            self.assertEqual(told, points)

    def test_judge(self):
        right = [("met", 0, y) for y in (0, -1, -BIG, -10 ** 99)]
        wrong = [("met", 0, 1), ("met", 1, 0), ("met", False, 0), ("met", 0, False), ("met", 0), ["met", 0, 0], (0, 0),
                 ("met", 0, None), ("met", (0, 0)), ("apart", "tensions"), ("apart", "currents"), ("apart", None),
                 ("apart", ["tensions"]), ("met", 0, 0, 0), ("apart",), ("apart", "tensions", 0), ("Met", 0, 0), (None, 0, 0),
                 ("Apart", "tensions"), ("Apart", "currents"), ("apart", 0, 0), ("met", "currents"), ("", "tensions")]
        assert_judges(self, is_meeting, (DIODE, DIODE), right, wrong)
        both = [("apart", "tensions"), ("apart", "currents")]
        assert_judges(self, is_meeting, (("steep", ((1, 0),)), ("steep", ((1, 0), (2, 0), (2, 1), (5, 1)))),
                      [("apart", "currents")], [("apart", "tensions"), ("apart", "current"), ("apart", True)] + wrong)
        assert_judges(self, is_meeting, (("steep", ((1, 0),)), ("flat", ((5, 1), (5, 2)))), [("apart", "tensions")],
                      wrong)
        assert_judges(self, is_meeting, (("steep", ((1, 0),)), ("flat", ((-5, 1),))), both[:1], wrong + both[1:])
        self.assertIs(is_meeting(("level", 1), ("level", 1), ("met", 10 ** 99, 1)), True)
        self.assertIs(is_meeting(("level", 1), ("level", 1), ("met", 10 ** 99, True)), False)

    def test_words(self):
        left, right = ("flat", ((-5, 3),)), ("steep", ((2, 0),))
        self.assertEqual((currents_of(left)[1], tensions_of(left)[0], tensions_of(right)[1]), (-5, 3, 0))
        self.assertEqual(meeting(left, right), ("apart", "tensions"))
        self.assertEqual(meeting(left, ("flat", ((2, 9),))), ("apart", "currents"))
        self.assertEqual(meeting(("steep", ((1, 0),)), ("steep", ((0, 0),))), ("apart", "currents"))
        self.assertEqual(meeting(("level", 1), ("level", 2)), ("apart", "tensions"))
        for one, other in PAIRS:
            words = [is_meeting(one, other, ("apart", word)) for word in ("tensions", "currents")]
            self.assertEqual(words.count(True), 1 if meeting(one, other)[0] == "apart" else 0)

    def test_in_common_is_not_enough(self):
        self.assertTrue(is_on(("plumb", 3), 3, 0) and is_on(("steep", ((3, 0),)), 3, 0))
        self.assertEqual(meeting(("plumb", 3), ("steep", ((3, 0),))), ("apart", "currents"))


class PartingTests(unittest.TestCase):
    def test_equal_or_parted(self):
        for one, other in itertools.product(RISES, repeat=2):
            told = parting(one, other)
            self.assertIs(is_parting(one, other, told), one != other)
            self.assertEqual(told is None, one == other)
            if told is not None:
                self.assertNotEqual(is_on(one, *told), is_on(other, *told))

    def test_unlike_far_away(self):
        long, longer = ("steep", ((0, 0), (BIG - 1, 0))), ("steep", ((0, 0), (BIG, 0)))
        self.assertIs(is_parting(long, longer, parting(long, longer)), True)
        self.assertIs(is_parting(("level", 0), longer, parting(("level", 0), longer)), True)
        many = stair("flat", 400)
        other = (many[0], many[1][:399])
        self.assertIs(is_parting(many, other, parting(many, other)), True)

    def test_judge(self):
        for one, other in ((DIODE, STEPS), (STAIRS, BATTERY), (("plumb", 0), DIODE), (("level", 1), ("plumb", 1))):
            alone = walked(one, 30) ^ walked(other, 30)
            right = [point for point in near(alone)]
            wrong = [point for point in itertools.product(range(-NEAR, NEAR + 1), repeat=2) if point not in alone]
            assert_judges(self, is_parting, (one, other), right, wrong + [None, [0, 0], (0,), (0, 0, 0)])
        for rise in RISES:
            assert_judges(self, is_parting, (rise, rise), [], [(0, 0), (0, 1), (5, -5), False, 0])
        self.assertIs(is_parting(DIODE, FUSE, (10 ** 99, 0)), True)
        self.assertIs(is_parting(DIODE, FUSE, (10 ** 99, 1)), False)
        self.assertIs(is_parting(("plumb", 1), ("plumb", 0), (1, 5)), True)
        self.assertIs(is_parting(("plumb", 1), ("plumb", 0), (True, 5)), False)


class RefusalTests(unittest.TestCase):
    def test_refusals(self):
        for function in (turned, transposed):
            assert_refusals(self, function, [DIODE], {0: BAD_RISE})
        assert_refusals(self, moved, [DIODE, 0, 0], {0: BAD_RISE, 1: BAD_NUMBER, 2: BAD_NUMBER})
        for function in (beside, in_row, meeting, meetings, parting):
            assert_refusals(self, function, [DIODE, FUSE], {0: BAD_RISE, 1: BAD_RISE})
        for function in (is_meeting, is_parting):
            assert_refusals(self, function, [DIODE, FUSE, None], {0: BAD_RISE, 1: BAD_RISE})

    def test_arguments_come_ahead_of_what_comes_then(self):
        assert_raises(self, InvalidNumber, ("given", LONG), moved, ("level", BIG), LONG, BIG)
        assert_raises(self, InvalidRise, None, beside, ("level", 1), ("level", BIG + 1))
        self.assertEqual(tensions_at(moved(STEPS, 1, 1), 3), (1, 4))


if __name__ == "__main__":
    unittest.main()
