"""Stage 4: energies of rises."""

import itertools
import unittest

from helpers import (
    BATTERY, DIODE, FUSE, NO_INTEGERS, NO_RISES, SIXTY, STAIRS, STEPS, assert_refusals, small_rises, stair)
from risenets.errors import InvalidNumber, InvalidRise
from risenets.rise.energies import anchor_of, area_beside, area_under, gap_of, lowest_up, work_between
from risenets.rise.joins import moved, transposed
from risenets.rise.rises import currents_at, currents_of, is_on, tensions_at, tensions_of

RISES = small_rises() + [DIODE, BATTERY, FUSE, STEPS, STAIRS]
BAD_RISE = (NO_RISES, InvalidRise, None)
BAD_NUMBER = (NO_INTEGERS, InvalidNumber, "given")
WINDOW = range(-9, 12)


def is_inside(span, number):
    """Whether the number is of the span."""
    return (span[0] is None or span[0] <= number) and (span[1] is None or number <= span[1])


class AreaTests(unittest.TestCase):
    def test_anchor(self):
        self.assertEqual(anchor_of(("level", -3)), (0, -3))
        self.assertEqual(anchor_of(("plumb", 7)), (7, 0))
        for rise in RISES:
            self.assertTrue(is_on(rise, *anchor_of(rise)))
            if rise[0] in ("flat", "steep"):
                self.assertEqual(anchor_of(rise), rise[1][0])

    def test_areas_are_0_at_the_anchor(self):
        for rise in RISES:
            x, y = anchor_of(rise)
            self.assertEqual((area_under(rise, x), area_beside(rise, y)), (0, 0))

    def test_slopes_of_up(self):
        for rise in RISES:
            for x in WINDOW:
                here, right = area_under(rise, x), area_under(rise, x + 1)
                self.assertEqual(here is not None, is_inside(currents_of(rise), x))
                if here is not None and right is not None:
                    self.assertEqual(right - here, tensions_at(rise, x)[1])
                    self.assertEqual(right - here, tensions_at(rise, x + 1)[0])

    def test_slopes_of_down(self):
        for rise in RISES:
            for y in WINDOW:
                here, above = area_beside(rise, y), area_beside(rise, y + 1)
                self.assertEqual(here is not None, is_inside(tensions_of(rise), y))
                if here is not None and above is not None:
                    self.assertEqual(above - here, currents_at(rise, y)[1])
                    self.assertEqual(above - here, currents_at(rise, y + 1)[0])

    def test_transposed(self):
        for rise in RISES:
            for n in WINDOW:
                self.assertEqual(area_under(rise, n), area_beside(transposed(rise), n))

    def test_far(self):
        self.assertEqual(area_under(("level", 10 ** 18), SIXTY), 10 ** 18 * SIXTY)
        self.assertEqual(area_under(("level", 10 ** 18), -SIXTY), -10 ** 18 * SIXTY)
        self.assertEqual(area_beside(("plumb", -10 ** 18), SIXTY), -10 ** 18 * SIXTY)
        self.assertEqual(area_under(("level", 3), 0), 0)
        self.assertIsNone(area_under(("plumb", 3), 4))
        self.assertEqual((area_under(("plumb", 3), 3), area_beside(("level", 3), 3)), (0, 0))
        rise = stair("flat", 400)
        self.assertEqual(area_under(rise, 199), sum(range(1, 200)))
        self.assertEqual(area_under(rise, 200), sum(range(1, 201)))

    def test_up_of_a_diode(self):
        self.assertIsNone(area_under(DIODE, -1))
        self.assertEqual([area_under(DIODE, x) for x in (0, 1, SIXTY)], [0, 0, 0])


class GapTests(unittest.TestCase):
    def test_never_below_0_and_0_exactly_on_the_rise(self):
        for rise in RISES:
            for x, y in itertools.product(WINDOW, repeat=2):
                gap = gap_of(rise, x, y)
                known = is_inside(currents_of(rise), x) and is_inside(tensions_of(rise), y)
                self.assertEqual(gap is not None, known)
                if known:
                    self.assertGreaterEqual(gap, 0)
                    self.assertEqual(gap == 0, is_on(rise, x, y))

    def test_formula(self):
        for rise in RISES:
            for x, y in itertools.product(WINDOW, repeat=2):
                up, down = area_under(rise, x), area_beside(rise, y)
                if up is not None and down is not None:
                    ax, ay = anchor_of(rise)
                    self.assertEqual(gap_of(rise, x, y), up + down + ax * ay - x * y)

    def test_moved_and_transposed(self):
        for rise in RISES:
            for x, y in itertools.product(range(-3, 5), repeat=2):
                self.assertEqual(gap_of(moved(rise, 3, -2), x + 3, y - 2), gap_of(rise, x, y))
                self.assertEqual(gap_of(transposed(rise), y, x), gap_of(rise, x, y))

    def test_midway_is_not_always_0(self):
        self.assertEqual([gap_of(STEPS, 0, -4), gap_of(STEPS, 4, 0), gap_of(STEPS, 2, -2)], [0, 6, 4])
        self.assertEqual([gap_of(FUSE, -2, -4), gap_of(FUSE, 2, 0), gap_of(FUSE, 0, -2)], [0, 0, 4])

    def test_far(self):
        self.assertEqual(gap_of(FUSE, 2, SIXTY), 0)
        self.assertEqual(gap_of(FUSE, -2, SIXTY), 4 * SIXTY)


class WorkTests(unittest.TestCase):
    def test_work(self):
        for rise in RISES:
            for x, u in itertools.product(WINDOW, repeat=2):
                start, end = area_under(rise, x), area_under(rise, u)
                wanted = None if start is None or end is None else end - start
                self.assertEqual(work_between(rise, x, u), wanted)

    def test_far(self):
        self.assertEqual(work_between(BATTERY, -SIXTY, SIXTY), 10 * SIXTY)
        self.assertIsNone(work_between(DIODE, -SIXTY, 0))
        self.assertIsNone(work_between(DIODE, 0, -SIXTY))


class LowestTests(unittest.TestCase):
    def test_lowest(self):
        for rise in RISES:
            told = lowest_up(rise)
            if not is_inside(tensions_of(rise), 0):
                self.assertIsNone(told)
                continue
            ups = {x: area_under(rise, x) for x in range(-30, 31) if area_under(rise, x) is not None}
            least, (low, high) = told
            self.assertEqual(least, min(ups.values()))
            self.assertEqual({x for x in ups if ups[x] == least}, {x for x in ups if is_inside((low, high), x)})
            self.assertEqual((low, high), currents_at(rise, 0))

    def test_straight(self):
        self.assertEqual(lowest_up(("level", 0)), (0, (None, None)))
        self.assertIsNone(lowest_up(("level", -1)))
        self.assertEqual(lowest_up(("plumb", 9)), (0, (9, 9)))

    def test_below_the_anchor(self):
        self.assertEqual(lowest_up(("flat", ((2, -3), (2, 0), (5, 0), (5, 1)))), (0, (2, 5)))
        self.assertEqual(lowest_up(("steep", ((0, -3), (4, -3), (4, 2)))), (-12, (4, 4)))
        self.assertEqual(lowest_up(("flat", ((0, 0), (0, 2)))), (0, (None, 0)))
        self.assertIsNone(lowest_up(("flat", ((0, 1), (0, 2)))))


class RefusalTests(unittest.TestCase):
    def test_refusals(self):
        for function in (anchor_of, lowest_up):
            assert_refusals(self, function, [DIODE], {0: BAD_RISE})
        for function in (area_under, area_beside):
            assert_refusals(self, function, [DIODE, 0], {0: BAD_RISE, 1: BAD_NUMBER})
        for function in (gap_of, work_between):
            assert_refusals(self, function, [DIODE, 0, 0], {0: BAD_RISE, 1: BAD_NUMBER, 2: BAD_NUMBER})


if __name__ == "__main__":
    unittest.main()
