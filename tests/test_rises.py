"""Stage 2: rises."""

import itertools
import unittest

from helpers import (
    BATTERY, DIODE, FUSE, LONG, NO_INTEGERS, NO_RISES, ODD, SIXTY, STAIRS, STEPS, assert_judges, assert_raises,
    assert_refusals, small_rises, stair, walked)
from risenets.errors import InvalidNumber, InvalidOperation, InvalidRise, TooMany, UnknownName
from risenets.rise import rises
from risenets.rise.rises import (
    crossing, currents_at, currents_of, is_crossing, is_on, is_rise, pieces, place_of, rise_of, tensions_at,
    tensions_of)

BIG = 10 ** 18
GRID = list(itertools.product(range(-5, 8), repeat=2))
BAD_RISE = (NO_RISES, InvalidRise, None)
BAD_NUMBER = (NO_INTEGERS, InvalidNumber, "given")


def ends(numbers, low, high):
    """The pair of the least and the greatest number, None where the walk was broken off."""
    return (None if min(numbers) <= low else min(numbers), None if max(numbers) >= high else max(numbers))


class FormTests(unittest.TestCase):
    def test_constants(self):
        self.assertEqual((rises.MOST_CORNERS, rises.FAR), (400, 10 ** 18))

    def test_judge(self):
        right = small_rises() + [DIODE, BATTERY, FUSE, STEPS, STAIRS, ("level", BIG), ("level", -BIG), ("plumb", BIG),
                                 ("steep", ((-BIG, -BIG), (BIG, -BIG), (BIG, BIG))), ("flat", ((BIG, -BIG),)),
                                 stair("flat", 400), stair("steep", 399), stair("steep", 1)]
        wrong = NO_RISES + [stair("flat", 401), stair("steep", 401), ("flat", ((0, 0), (0, 1), (1, 2))),
                            ("steep", ((0, 0), (1, 0), (2, 0))), ("steep", ((BIG, 0), (BIG + 1, 0))),
                            ("plumb", 0, ((0, 0),)), ("level", -BIG - 1), ("flat", ((0, 0), (0, 10 ** 99)))]
        assert_judges(self, is_rise, (), right, wrong)

    def test_one_form_alone(self):
        seen = {}
        for rise in small_rises():
            points = frozenset(walked(rise, 9))
            self.assertEqual(seen.setdefault(points, rise), rise)

    def test_equal_corners_are_not_enough(self):
        self.assertNotEqual(pieces(("flat", ((0, 0),))), pieces(("steep", ((0, 0),))))


class PieceTests(unittest.TestCase):
    def test_straight(self):
        self.assertEqual(pieces(("level", -3)), (("flat", -3, None, None),))
        self.assertEqual(pieces(("plumb", 4)), (("steep", 4, None, None),))

    def test_in_sequence(self):
        self.assertEqual(pieces(FUSE), (("steep", -2, None, 0), ("flat", 0, -2, 2), ("steep", 2, 0, None)))
        self.assertEqual(pieces(("flat", ((1, 2),))), (("flat", 2, None, 1), ("steep", 1, 2, None)))
        self.assertEqual(pieces(("flat", ((1, 2), (1, 5)))),
                         (("flat", 2, None, 1), ("steep", 1, 2, 5), ("flat", 5, 1, None)))

    def test_points_of_pieces(self):
        for rise in small_rises():
            points = set()
            for kind, place, least, most in pieces(rise):
                for n in range(-20 if least is None else least, (20 if most is None else most) + 1):
                    points.add((n, place) if kind == "flat" else (place, n))
            inner = {point for point in walked(rise, 20) if max(map(abs, point)) <= 12}
            self.assertEqual({point for point in points if max(map(abs, point)) <= 12}, inner)

    def test_many(self):
        row = pieces(stair("flat", 400))
        self.assertEqual(len(row), 401)
        self.assertEqual([piece[0] for piece in row[:3]], ["flat", "steep", "flat"])
        self.assertEqual(row[-1], ("flat", 200, 199, None))


class RangeTests(unittest.TestCase):
    def test_currents_and_tensions(self):
        for rise in small_rises():
            points = walked(rise, 30)
            self.assertEqual(currents_of(rise), ends({x for x, _ in points}, -20, 20))
            self.assertEqual(tensions_of(rise), ends({y for _, y in points}, -20, 20))

    def test_along(self):
        for rise in small_rises():
            points = walked(rise, 30)
            for n in range(-6, 9):
                up = {y for x, y in points if x == n}
                right = {x for x, y in points if y == n}
                self.assertEqual(tensions_at(rise, n), ends(up, -20, 20) if up else None)
                self.assertEqual(currents_at(rise, n), ends(right, -20, 20) if right else None)

    def test_far(self):
        rise = ("steep", ((-BIG, -BIG), (BIG, -BIG), (BIG, BIG)))
        self.assertEqual(tensions_at(rise, BIG), (-BIG, BIG))
        self.assertIsNone(tensions_at(rise, -BIG - 1))
        self.assertEqual(currents_at(rise, BIG), (BIG, None))
        self.assertEqual(currents_at(rise, SIXTY), None)
        self.assertEqual(currents_at(DIODE, -SIXTY), (0, 0))
        self.assertEqual(tensions_at(DIODE, SIXTY), (0, 0))
        self.assertIsNone(tensions_at(DIODE, -SIXTY))

    def test_a_least_current_needs_no_least_tension(self):
        self.assertEqual((currents_of(DIODE)[0], tensions_at(DIODE, 0)[0]), (0, None))
        level_up = ("steep", ((3, 0),))
        self.assertEqual(tensions_of(("plumb", 3)), (None, None))
        self.assertEqual(currents_of(level_up), (3, None))


class PlaceTests(unittest.TestCase):
    def test_on_or_crossed(self):
        for rise in small_rises():
            points = walked(rise, 30)
            for x, y in GRID:
                greater = any(a > x and b < y for a, b in points)
                lesser = any(a < x and b > y for a, b in points)
                self.assertEqual([(x, y) in points, greater, lesser].count(True), 1)
                wanted = "on" if (x, y) in points else ("above" if greater else "below")
                self.assertEqual(place_of(rise, x, y), wanted)
                self.assertIs(is_on(rise, x, y), wanted == "on")

    def test_crossing(self):
        for rise in small_rises():
            points = walked(rise, 30)
            for x, y in GRID:
                told = crossing(rise, x, y)
                self.assertEqual(told is None, (x, y) in points)
                if told is not None:
                    self.assertIn(told, points)
                    self.assertLess((told[0] - x) * (told[1] - y), 0)
                self.assertIs(is_crossing(rise, x, y, told), told is not None)

    def test_far_places(self):
        self.assertEqual(place_of(("plumb", BIG), BIG, SIXTY), "on")
        self.assertEqual(place_of(("plumb", BIG), -SIXTY, -SIXTY), "above")
        self.assertEqual(place_of(("plumb", -BIG), SIXTY, SIXTY), "below")
        for rise in (DIODE, BATTERY, FUSE, STAIRS, ("plumb", 1), ("flat", ((0, 0),))):
            for x, y in itertools.product((SIXTY, -SIXTY, 0, 10 ** 30), repeat=2):
                told = crossing(rise, x, y)
                self.assertIs(is_crossing(rise, x, y, told), told is not None)
                self.assertEqual(told is None, is_on(rise, x, y))

    def test_judge_takes_every_right_point(self):
        for rise in (DIODE, STEPS, STAIRS, ("level", 1), ("plumb", 1), ("flat", ((1, 1),))):
            points = walked(rise, 30)
            for x, y in ((0, 0), (3, 1), (1, 3), (-2, 2), (4, -4)):
                right = {(a, b) for a, b in points if (a - x) * (b - y) < 0}
                wrong = [point for point in itertools.product(range(-8, 9), repeat=2) if point not in right]
                assert_judges(self, is_crossing, (rise, x, y), sorted(right), wrong)

    def test_nothing_crosses_a_point_on_the_rise(self):
        for rise in small_rises():
            points = sorted(walked(rise, 9))
            for x, y in points:
                assert_judges(self, is_crossing, (rise, x, y), [], points)

    def test_judged_integers_of_any_length(self):
        right = [(10 ** 99, 0), (4, 0), (LONG, 0)]
        wrong = [(3, 0), (10 ** 99, 1), (True, 0), (4, False), (4, None), [4, 0], (4, 0, 0), (4,), "(4, 0)"]
        assert_judges(self, is_crossing, (DIODE, 3, 1), right, wrong)
        self.assertIs(is_crossing(DIODE, -1, -1, (0, -10 ** 99)), True)
        self.assertIs(is_crossing(("level", 0), 1, 1, (2, 0)), True)
        self.assertIs(is_crossing(("plumb", 1), 0, 1, (True, 0)), False)


class RiseOfTests(unittest.TestCase):
    def test_all_points_are_on_it(self):
        kinds = ("flat", "steep")
        for steps in itertools.product(((0, 0), (1, 0), (0, 2), (3, 0)), repeat=3):
            points = [(1, -1)]
            for right, up in steps:
                points.append((points[-1][0] + right, points[-1][1] + up))
            for first, last in itertools.product(kinds, repeat=2):
                rise = rise_of(first, tuple(points), last)
                self.assertTrue(is_rise(rise))
                for x, y in points:
                    self.assertTrue(is_on(rise, x, y))
                self.assertEqual((pieces(rise)[0][0], pieces(rise)[-1][0]), (first, last))
                (x, y), (u, v) = points[0], points[-1]
                self.assertTrue(is_on(rise, x - 9, y) if first == "flat" else is_on(rise, x, y - 9))
                self.assertTrue(is_on(rise, u + 9, v) if last == "flat" else is_on(rise, u, v + 9))
                self.assertTrue(set(rise[1] if rise[0] in kinds else ()) <= set(points))

    def test_own_corners_tell_a_rise(self):
        for rise in small_rises() + [stair("flat", 400), stair("steep", 399)]:
            if rise[0] in ("flat", "steep"):
                self.assertEqual(rise_of(rise[0], rise[1], pieces(rise)[-1][0]), rise)

    def test_limits(self):
        far = ((-BIG, -BIG), (BIG, -BIG), (BIG, BIG))
        self.assertEqual(rise_of("steep", far, "flat"), ("steep", far))
        self.assertEqual(rise_of("flat", tuple((k, 0) for k in range(1000)), "flat"), ("level", 0))
        self.assertEqual(rise_of("steep", ((5, 5),) * 1000, "steep"), ("plumb", 5))
        corners = stair("flat", 400)[1]
        self.assertEqual(rise_of("flat", corners, "flat"), ("flat", corners))

    def test_too_many_corners(self):
        corners = stair("flat", 401)[1]
        assert_raises(self, TooMany, ("limit", 400), rise_of, "flat", corners, "steep")
        self.assertEqual(len(rise_of("flat", corners, "flat")[1]), 400)
        assert_raises(self, TooMany, ("limit", 400), rise_of, "steep", stair("flat", 1000)[1], "flat")
        assert_raises(self, UnknownName, ("wanted", "up"), rise_of, "flat", corners, "up")

    def test_refusals(self):
        no_kinds = ODD[:5] + ["level", "Flat", "flat ", "plumb", ("flat",), ["flat"], 0, LONG, None] + ODD[9:]
        points = ODD + [0, (), ((0, 0),) * 1001, [(0, 0)], ([0, 0],), ((0, 0, 0),), ((0, True),), ((None, 0),), (0, 0)]
        points += [((0, 0), (1, 1)), ((0, 0), (-1, 0)), ((0, 0), (0, -1)), ((0, 0), (1, 0), (0, 0)), ((BIG + 1, 0),)]
        points += [((0, -BIG - 1),), ((0, 0), (LONG, 0)), ((0, 0), (0, 0, 0)), ((0, 0), None), ((0, 0), (1, -1))]
        assert_refusals(self, rise_of, ["flat", ((0, 0),), "flat"], {
            0: (no_kinds, UnknownName, "wanted"), 1: (points, InvalidOperation, None),
            2: (no_kinds, UnknownName, "wanted")})
        assert_raises(self, UnknownName, ("wanted", "up"), rise_of, "up", (), "down")
        assert_raises(self, InvalidOperation, None, rise_of, "flat", (), "down")


class RefusalTests(unittest.TestCase):
    def test_refusals(self):
        for function in (pieces, currents_of, tensions_of):
            assert_refusals(self, function, [DIODE], {0: BAD_RISE})
        for function in (tensions_at, currents_at):
            assert_refusals(self, function, [DIODE, 0], {0: BAD_RISE, 1: BAD_NUMBER})
        for function in (is_on, place_of, crossing):
            assert_refusals(self, function, [DIODE, 0, 0], {0: BAD_RISE, 1: BAD_NUMBER, 2: BAD_NUMBER})
        assert_refusals(self, is_crossing, [DIODE, 0, 0, None], {0: BAD_RISE, 1: BAD_NUMBER, 2: BAD_NUMBER})

    def test_long_corners(self):
        for function in (pieces, currents_of, tensions_of):
            assert_raises(self, InvalidRise, None, function, stair("flat", 401))


if __name__ == "__main__":
    unittest.main()
