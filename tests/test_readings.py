"""Stage 19: readings."""

import itertools
import unittest

from helpers import (
    BATTERY, FUSE, JUNK, LONG, NETS, NO_INTEGERS, NO_RISES, SIXTY, STAIRS, STEPS, all_fights, assert_judges,
    assert_raises, assert_refusals, digits, dressed_nets, is_inside, plain_net, small_rises, spread, tall)
from risenets.change.one import has_state_with
from risenets.ends.seen import seen
from risenets.errors import InvalidNet, InvalidNumber, InvalidReadings, Refused
from risenets.net.nets import Net
from risenets.rise.rises import currents_of, is_on, is_rise
from risenets.told import readings as module
from risenets.told.readings import (
    agreement, avoiding, can_hide, currents_told, hidden_currents, is_agreement, is_avoiding, place_told, tensions_told)
from test_nets import BAD_NET
from test_seen import LONG_ROW
from test_states import TORN

FAR = 10 ** 17
SEEN = ((0, 0), (4, 2), (4, 5))
CROSSED = ((0, 0), (3, -1), (5, 5), (4, -2))
LOOSE = Net(2, ((0, 1, ("level", 9)), (1, 0, ("steep", ((0, -3), (8, -3))))))


def do_cross(one, other):
    """Whether two points cross."""
    return (one[0] < other[0] and one[1] > other[1]) or (one[0] > other[0] and one[1] < other[1])


def crossed(readings):
    """All pairs of readings that cross."""
    return [(i, j) for i, j in itertools.combinations(range(len(readings)), 2) if do_cross(readings[i], readings[j])]


def some_readings():
    """Readings that agree and that do not, some twice, in any sequence."""
    found = [SEEN, CROSSED, ((2, -1),), ((0, 0), (0, 0)), ((0, 3), (0, -2), (0, 0)), ((1, 2), (-3, 2), (0, 2)), ((2, 2), (0, 0), (1, 1), (1, 1))]
    for salt in range(60):
        count = 1 + salt % 5
        numbers = spread(2 * count, 3, salt + 70)
        points = list(zip(numbers[::2], numbers[1::2]))
        if salt % 3:
            points = [(x, y + x) for x, y in zip(numbers[::2], sorted(numbers[1::2])) for x in [x // 2]]
        found.append(tuple(points))
    for at, rise in enumerate(small_rises()[6:]):
        x, y = rise[1][0]
        points = [(x + a, y + b) for a in range(-2, 4) for b in range(-2, 4) if is_on(rise, x + a, y + b)]
        found.append(tuple(points[at % 3::2][::-1]))
    return [readings for readings in found if readings]


ALL = some_readings()
AGREEING = [readings for readings in ALL if not crossed(readings)]
NO_READINGS = JUNK + [0, 1, (0, 0), ((0, 0), (1,)), ((0, 0), (1, True)), ((True, 0),), ((0, None),), [(0, 0)], ([0, 0],), ((0, 0, 0),),
                      ((0, 0),) * 61, ((FAR + 1, 0),), ((0, -FAR - 1),), ((0, 0), (LONG, 0)), ((0, "0"),), ((0, 0), None)]
NO_NEAR = NO_INTEGERS + [FAR + 1, -FAR - 1, SIXTY]
# Rises that have all of some readings, found among many small ones.
MANY_RISES = small_rises() + [(first, ((x, y), (x + 1, y) if first == "steep" else (x, y + 1))) for first in ("flat", "steep")
                              for x in range(-3, 4) for y in range(-3, 4)] + [(word, n) for word in ("level", "plumb") for n in range(-3, 4)]


def place(readings, current, tension):
    """The place of a point, by the words of [19.2] and [19.3]."""
    point = (current, tension)
    if any(do_cross(point, reading) for reading in readings):
        return "barred"
    across = [y for x, y in readings if x == current], [x for x, y in readings if y == tension]
    for numbers, number in zip(across, (tension, current)):
        if numbers and min(numbers) <= number <= max(numbers):
            return "sure"
    return "possible"


class AgreementTests(unittest.TestCase):
    def test_constants(self):
        self.assertEqual((module.MOST_READINGS, module.FARTHEST), (60, 10 ** 17))

    def test_either_or(self):
        words = []
        for readings in ALL:
            told, pairs = agreement(readings), crossed(readings)
            words.append(told[0])
            self.assertIs(is_agreement(readings, told), True)
            if told[0] == "rise":
                self.assertEqual((len(told), pairs), (2, []))
                self.assertTrue(is_rise(told[1]) and all(is_on(told[1], *point) for point in readings))
            else:
                self.assertIn(told[1:], pairs)
            for i, j in itertools.product(range(-1, len(readings) + 1), repeat=2):
                self.assertIs(is_agreement(readings, ("crossed", i, j)), (i, j) in pairs)
            for rise in MANY_RISES[::3]:
                self.assertIs(is_agreement(readings, ("rise", rise)), all(is_on(rise, *point) for point in readings))
        self.assertGreater(min(words.count("rise"), words.count("crossed")), 20)

    def test_sequence_and_twins(self):
        for readings in ALL:
            for other in (readings[::-1], readings + readings[:1], tuple(sorted(readings))):
                self.assertEqual(agreement(other)[0], agreement(readings)[0])

    def test_sixty_readings_and_far_ones(self):
        row = tuple((k // 2 * 3, (k + 1) // 2 * 2) for k in range(60))
        told = agreement(row)
        self.assertEqual(told[0], "rise")
        self.assertTrue(all(is_on(told[1], *point) for point in row))
        far = tuple((FAR - k, FAR - k) for k in range(30)) + tuple((k - FAR, k - FAR) for k in range(30))
        self.assertIs(is_agreement(far, agreement(far)), True)
        self.assertEqual(agreement(((FAR, -FAR), (-FAR, FAR))), ("crossed", 0, 1))
        self.assertEqual(agreement(((7, 7),))[0], "rise")
        self.assertEqual(agreement(row[:-1] + ((0, 10 ** 6),)), ("crossed", 2, 59))

    def test_judge(self):
        right = [("rise", ("flat", ((4, 0), (4, 5)))), ("rise", ("steep", ((0, 2), (4, 2), (4, 5)))), ("rise", ("steep", ((0, 0), (4, 0))))]
        wrong = [("rise", ("flat", ((4, 0), (4, 4)))), ("rise", ("plumb", 4)), ("rise", ("flat", ((4, False), (4, 5)))), ("crossed", 0, 1),
                 ("Rise", ("flat", ((4, 0), (4, 5)))), ["rise", ("flat", ((4, 0), (4, 5)))], ("rise", ["flat", ((4, 0), (4, 5))]), ("rise", None),
                 ("rise", ("flat", ((4, 0), (4, 5))), 0), ("flat", ((4, 0), (4, 5))), ("crossed", 1, 2), ("crossed", 1, 1), ("crossed", 2, 0)]
        assert_judges(self, is_agreement, (SEEN,), right, wrong + [("rise", rise) for rise in NO_RISES])
        wrong = [("crossed", 1, 0), ("crossed", False, 1), ("crossed", 0, True), ("crossed", 0, 4), ("crossed", -4, 1), ("crossed", 0, None),
                 ["crossed", 0, 1], ("Crossed", 0, 1), ("crossed", 0, 1, 2), ("crossed", 0), ("crossed", 2, 2), ("crossed", 0, 10 ** 99)]
        assert_judges(self, is_agreement, (CROSSED,), [("crossed", *pair) for pair in crossed(CROSSED)], wrong + right + [("crossed", 1, 2)])


class PossibleTests(unittest.TestCase):
    def test_ranges(self):
        for readings in AGREEING:
            for number in range(-6, 9):
                for function, exchanged in ((tensions_told, False), (currents_told, True)):
                    span = function(readings, number)
                    for other in range(-9, 12):
                        point = (other, number) if exchanged else (number, other)
                        self.assertEqual(is_inside(span, other), place(readings, *point) != "barred")

    def test_places(self):
        found = []
        for readings in AGREEING:
            for point in itertools.product(range(-5, 7), repeat=2):
                told = place_told(readings, *point)
                self.assertEqual(told, place(readings, *point), (readings, point))
                found.append(told)
        for word in ("sure", "possible", "barred"):
            self.assertGreater(found.count(word), 200)

    def test_places_by_trying_rises(self):
        for readings in AGREEING[::2]:
            rises = [rise for rise in MANY_RISES if all(is_on(rise, *point) for point in readings)]
            for point in itertools.product(range(-3, 5), repeat=2):
                told = place_told(readings, *point)
                having = [is_on(rise, *point) for rise in rises]
                self.assertTrue(told != "sure" or all(having))
                self.assertTrue(told != "barred" or not any(having))

    def test_avoiding(self):
        kinds = []
        for readings in AGREEING:
            for point in itertools.product(range(-4, 6), repeat=2):
                told, word = avoiding(readings, *point), place(readings, *point)
                self.assertEqual(told is None, word == "sure")
                self.assertIs(is_avoiding(readings, *point, told), True)
                self.assertIs(is_avoiding(readings, *point, None), word == "sure")
                if told is not None:
                    self.assertTrue(is_rise(told) and all(is_on(told, *reading) for reading in readings))
                    self.assertFalse(is_on(told, *point))
                kinds.append(word)
            for rise in MANY_RISES[::9]:
                right = all(is_on(rise, *reading) for reading in readings) and not is_on(rise, 1, 1)
                self.assertIs(is_avoiding(readings, 1, 1, rise), right)
        self.assertEqual(len(set(kinds)), 3)

    def test_possible_points_are_on_some_rise(self):
        for readings in AGREEING:
            for point in itertools.product(range(-4, 6), repeat=2):
                if place(readings, *point) == "possible" and len(readings) < 60:
                    self.assertEqual(agreement(readings + (point,))[0], "rise")

    def test_far_points(self):
        for current, tension in ((FAR, FAR), (-FAR, -FAR), (FAR, -FAR), (-FAR, FAR), (FAR, 0), (0, -FAR)):
            for readings in (SEEN, ((FAR, FAR),), ((-FAR, FAR),), ((0, -FAR), (FAR, 0))):
                told = avoiding(readings, current, tension)
                self.assertEqual(place_told(readings, current, tension), place(readings, current, tension))
                self.assertIs(is_avoiding(readings, current, tension, told), True)
                self.assertLessEqual(digits(told) if told else 0, 18)

    def test_judge(self):
        right = [("steep", ((0, 2), (4, 2), (4, 5))), ("steep", ((0, 2), (4, 2)))]
        wrong = [("flat", ((4, 0), (4, 5))), ("plumb", 4), ("steep", ((0, 2), (4, 2), (4, 4))), ("steep", ((False, 2), (4, 2))), None, ("rise", right[0])]
        assert_judges(self, is_avoiding, (SEEN, 4, 1), right, wrong + NO_RISES)
        assert_judges(self, is_avoiding, (SEEN, 4, 4), [None], right + NO_RISES)
        assert_judges(self, is_avoiding, (SEEN, 3, 3), right[:0] + [("flat", ((4, 0), (4, 5)))], [None, ("steep", ((0, 3), (4, 3)))])

    def test_ends(self):
        self.assertEqual([tensions_told(((3, 3),), n) for n in (2, 3, 4)], [(None, 3), (None, None), (3, None)])
        self.assertEqual([currents_told(((3, 3), (5, 3)), n) for n in (2, 3, 4)], [(None, 3), (None, None), (5, None)])


def without(net, wire):
    """The net without the wire."""
    return Net(net.knots, net.wires[:wire] + net.wires[wire + 1:])


SMALL = [net for net in dressed_nets(NETS, 5) if len(net)] + [LOOSE, TORN]


class HiddenTests(unittest.TestCase):
    def fights(self, net, wire):
        """All fights of the net without the wire, with any current in its place, by the indices of the net."""
        tail, head, _ = net.wires[wire]
        found = []
        for word, told in all_fights(without(net, wire)):
            if word == "loop":
                found.append((word, tuple((gone + (gone >= wire), way) for gone, way in told)))
            elif (tail in told) == (head in told):
                found.append((word, told))
        return found

    def test_can_hide(self):
        hidden = refused = 0
        for at, (net, wire) in enumerate((net, wire) for net in SMALL for wire in range(0, len(net), 2)):
            readings = AGREEING[at * 7 % len(AGREEING)]
            fights = self.fights(net, wire)
            told = seen(without(net, wire), net.wires[wire][1], net.wires[wire][0])
            if fights:
                for function, more in ((can_hide, (readings, 0, 0)), (hidden_currents, (readings,))):
                    with self.assertRaises(Refused) as caught:
                        function(net, wire, *more)
                    self.assertIn(caught.exception.reason, fights)
                refused += 1
                continue
            right = {(x, y) for x in range(-12, 13) for y in range(-12, 13) if place(readings, x, y) != "barred" and is_on(told[1], x, -y)}
            for point in itertools.product(range(-4, 5), repeat=2):
                self.assertIs(can_hide(net, wire, readings, *point), point in right)
                hidden += point in right
            self.check_currents(hidden_currents(net, wire, readings), {x for x, _ in right})
        self.assertGreater(min(hidden, refused), 20)

    def check_currents(self, span, found):
        """The range has just the currents that are found, as far as the window goes."""
        if span is None:
            self.assertEqual(found, set())
            return
        inner = {x for x in range(-7, 8) if is_inside(span, x)}
        self.assertLessEqual(inner & {x for x in found if abs(x) <= 7}, inner)
        self.assertEqual({x for x in found if abs(x) <= 7}, inner)

    def test_can_hide_is_a_state_with_some_rise(self):
        shown = 0
        for at, (net, wire) in enumerate((net, wire) for net in SMALL[::3] for wire in range(min(len(net), 2))):
            if self.fights(net, wire):
                continue
            for readings in AGREEING[at % 5::19]:
                some = hidden_currents(net, wire, readings)
                rises = [rise for rise in MANY_RISES if all(is_on(rise, *point) for point in readings)] + [agreement(readings)[1]]
                for rise in rises[-4:]:
                    self.assertTrue(some is not None or not has_state_with(net, wire, rise))
                    shown += some is not None and has_state_with(net, wire, rise)
        self.assertGreater(shown, 20)

    def test_ends_of_the_rest(self):
        """All kinds of rests: levels, plumbs, stairs, with any ends."""
        for rise in small_rises():
            net = Net(2, ((0, 1, BATTERY), (1, 0, rise)))
            for readings in AGREEING[::9]:
                # The current of the hidden wire is that of the other one, which comes back; tensions are opposite.
                right = {x for x in range(-15, 16) for y in range(-25, 26) if place(readings, x, y) != "barred" and is_on(rise, x, -y)}
                span = hidden_currents(net, 0, readings)
                if span is None:
                    self.assertEqual(right, set())
                    continue
                self.assertEqual({x for x in range(-12, 13) if is_inside(span, x)}, {x for x in right if abs(x) <= 12}, (rise, readings))
                if None in span:
                    self.assertIn(None, currents_of(rise))

    def test_examples_by_hand(self):
        net = Net(2, ((0, 1, ("plumb", 7)), (1, 0, ("level", -1))))
        self.assertEqual(hidden_currents(net, 0, ((0, 0), (5, 5))), (0, 5))
        self.assertEqual(hidden_currents(net, 0, ((0, 1),)), (None, None))
        self.assertEqual(hidden_currents(net, 0, ((0, 0),)), (0, None))
        self.assertEqual(hidden_currents(net, 1, ((0, 0),)), (7, 7))
        self.assertEqual(hidden_currents(Net(2, ((0, 1, FUSE),)), 0, ((3, 3), (5, 9))), (0, 0))
        self.assertEqual(hidden_currents(Net(3, ((0, 1, FUSE), (1, 2, BATTERY))), 1, ((-3, 3), (5, 9))), (0, 0))
        self.assertEqual(hidden_currents(net, 0, ((FAR, FAR), (-FAR, -FAR))), (-FAR, FAR))

    def test_the_own_rise_does_not_count(self):
        for rise in small_rises()[::3]:
            net = Net(2, ((0, 1, rise), LOOSE.wires[1]))
            self.assertEqual(hidden_currents(net, 0, SEEN), (4, 4))
            self.assertIs(can_hide(net, 0, SEEN, 4, 3), True)

    def test_rests_with_many_corners(self):
        net = Net(12, LONG_ROW.wires + ((0, 11, STAIRS),))
        self.assertIs(can_hide(net, 11, ((0, 0),), 0, 0), False)
        span = hidden_currents(net, 11, ((-10 ** 9, -10 ** 9), (10 ** 9, 10 ** 9)))
        self.assertEqual(span, (-10 ** 9, 10 ** 9))
        net = Net(2, ((0, 1, tall("flat", 40, 1)), (1, 0, tall("steep", 40, 2))))
        span = hidden_currents(net, 0, ((0, 0),))
        self.assertTrue(span is None or span[0] is None or span[1] is None or span[0] <= span[1])


class RefusalTests(unittest.TestCase):
    def test_refusals(self):
        bad, bad_number = (NO_READINGS, InvalidReadings, None), (NO_NEAR, InvalidNumber, "given")
        bad_wire = (NO_INTEGERS + [-1, 2, 10], InvalidNumber, "given")
        assert_refusals(self, agreement, [SEEN], {0: bad})
        assert_refusals(self, is_agreement, [SEEN, None], {0: bad})
        for function in (tensions_told, currents_told):
            assert_refusals(self, function, [SEEN, 1], {0: bad, 1: bad_number})
        for function in (place_told, avoiding):
            assert_refusals(self, function, [SEEN, 1, 1], {0: bad, 1: bad_number, 2: bad_number})
        assert_refusals(self, is_avoiding, [SEEN, 1, 1, None], {0: bad, 1: bad_number, 2: bad_number})
        assert_refusals(self, hidden_currents, [LOOSE, 0, SEEN], {0: BAD_NET, 1: bad_wire, 2: bad})
        assert_refusals(self, can_hide, [LOOSE, 0, SEEN, 1, 1], {0: BAD_NET, 1: bad_wire, 2: bad, 3: bad_number, 4: bad_number})

    def test_crossed_is_told_behind(self):
        for function, more in ((tensions_told, (1,)), (currents_told, (1,)), (place_told, (1, 1)), (avoiding, (1, 1)), (is_avoiding, (1, 1, None))):
            for readings in ALL:
                pairs = crossed(readings)
                if pairs:
                    assert_raises(self, Refused, ("reason", ("crossed", *min(pairs))), function, readings, *more)
            for at in range(len(more) - (function is is_avoiding)):
                wrong = more[:at] + (FAR + 1,) + more[at + 1:]
                assert_raises(self, InvalidNumber, ("given", FAR + 1), function, CROSSED, *wrong)
        assert_raises(self, Refused, ("reason", ("crossed", 0, 1)), hidden_currents, TORN, 3, CROSSED)
        assert_raises(self, Refused, ("reason", ("crossed", 0, 1)), can_hide, TORN, 3, CROSSED, 0, 0)
        assert_raises(self, InvalidNumber, ("given", None), can_hide, TORN, 3, CROSSED, 0, None)
        assert_raises(self, InvalidNumber, ("given", 4), hidden_currents, TORN, 4, CROSSED)
        assert_raises(self, InvalidNet, None, can_hide, None, 4, None, None, None)
        assert_raises(self, InvalidNumber, ("given", 0), hidden_currents, plain_net(2, ()), 0, SEEN)

    def test_fights_by_their_indices_in_the_net(self):
        net = Net(3, ((0, 1, STEPS), (1, 2, BATTERY), (0, 2, STEPS), (1, 2, ("level", 4))))
        for wire in (0, 2):
            for function, more in ((hidden_currents, (SEEN,)), (can_hide, (SEEN, 3, 3))):
                with self.assertRaises(Refused) as caught:
                    function(net, wire, *more)
                word, steps = caught.exception.reason
                self.assertEqual((word, sorted(steps)), ("loop", [(1, 1), (3, -1)]))
        # The loop of both is open without one of them.
        self.assertIsNotNone(hidden_currents(net, 1, SEEN))


class NotTrueTests(unittest.TestCase):
    """[19.5]: none of these is true."""

    def test_two_points_tell_the_rise_between_them(self):
        self.assertEqual(place_told(((0, 0), (2, 2)), 1, 1), "possible")

    def test_possible_points_stay_possible(self):
        self.assertEqual([place_told(readings, 0, 3) for readings in (((1, 4),), ((1, 4), (1, 2)))], ["possible", "barred"])

    def test_sure_at_a_current_is_sure_along_its_tension(self):
        self.assertEqual(place_told(SEEN, 4, 4), "sure")
        self.assertEqual([place_told(SEEN, current, 4) for current in (3, 5)], ["barred", "barred"])
        self.assertEqual([place_told(((4, 2), (4, 4)), current, 4) for current in (3, 4, 5)], ["barred", "sure", "possible"])


if __name__ == "__main__":
    unittest.main()
