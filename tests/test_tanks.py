"""Stage 18: tanks."""

import itertools
import unittest

from helpers import (
    BATTERY, DIODE, FUSE, JUNK, LONG, NETS, NO_INTEGERS, NO_NETS, NO_RISES, ODD, SIXTY, STAIRS, STEPS, all_loops,
    assert_judges, assert_raises, assert_refusals, digits, is_inside, loop_sum, plain_net, rests, small_rises, spread,
    stair, windows)
from risenets.errors import InvalidCurrents, InvalidNet, InvalidNumber, InvalidOperation, InvalidTanks
from risenets.net.nets import Net, components, drops
from risenets.rise.energies import area_under, lowest_up
from risenets.rise.joins import moved, turned
from risenets.rise.rises import currents_of, is_on, tensions_at, tensions_of
from risenets.state.states import is_state
from risenets.time import tanks as module
from risenets.time.tanks import Tanks

SLOPE = ("steep", ((0, 0), (1, 0), (1, 1), (2, 1), (2, 2)))
POOLS = Tanks(Net(3, ((1, 2, FUSE),)), ((1, SLOPE, 3), (2, SLOPE, 0)))
FREE = ("level", 0)
FAR = 10 ** 10


def passive(rise):
    """Whether (0, 0) is on the rise."""
    return is_on(rise, 0, 0)


# One whose areas are reckoned from another current than 0.
SOFT = ("steep", ((-2, -1), (0, -1), (0, 1), (3, 1)))
PASSIVE = [rise for rise in small_rises() if passive(rise)] + [FUSE, turned(DIODE), SOFT, moved(STAIRS, 0, -1), turned(STAIRS)]
STORES = [rise for rise in small_rises() if is_inside(tensions_of(rise), 0)] + [SLOPE, STAIRS]


def some_tanks():
    """Tanks of many shapes with small rises."""
    found = [POOLS]
    for at, shape in enumerate([net for net in NETS if 1 < net.knots <= 5] * 7):
        numbers = [number + 500 for number in spread(len(shape) + 20, 500, at + 40)]
        wires = tuple((tail, head, PASSIVE[number % len(PASSIVE)]) for (tail, head, _), number in zip(shape.wires, numbers))
        parts = []
        for k in range(1 + at % 3):
            rise = STORES[numbers[-k - 1] % len(STORES)]
            least, most = currents_of(rise)
            level = numbers[-k - 9] % 11 - 5
            level = level if least is None else max(level, least)
            level = level if most is None else min(level, most)
            parts.append((1 + numbers[-k - 14] % (shape.knots - 1), rise, level))
        found.append(Tanks(Net(shape.knots, wires), tuple(parts)))
    return found


TANKS = some_tanks()


def joined_net(tanks):
    """The joined net, by the words of [18.1]."""
    more = tuple((knot, 0, moved(rise, -level, 0)) for knot, rise, level in tanks.tanks)
    return Net(tanks.net.knots, tanks.net.wires + more)


def bars(tanks):
    """All loops that bar rest, by the words of [18.2]."""
    net = joined_net(tanks)
    spans = [tensions_at(rise, 0) for _, _, rise in net.wires]
    sums = {loop: loop_sum(loop, spans) for loop in all_loops(net)}
    return [loop for loop, number in sums.items() if number is not None and number > 0]


def is_right_tick(tanks, state):
    """Whether the pair of rows is what a tick can be."""
    return rests(joined_net(tanks), state) and (bool(bars(tanks)) or not any(state[0]))


def stored(tanks):
    """What is stored in all tanks, by the words of [18.3]."""
    return sum(area_under(rise, level) - lowest_up(rise)[0] for _, rise, level in tanks.tanks)


def with_levels(tanks, levels):
    """The tanks with other levels."""
    return Tanks(tanks.net, tuple((knot, rise, level) for (knot, rise, _), level in zip(tanks.tanks, levels)))


class ClassTests(unittest.TestCase):
    def test_constants(self):
        self.assertEqual((module.MOST_TANKS, module.MOST_LEVEL, module.MOST_TICKS), (6, 10 ** 10, 1000))

    def test_properties(self):
        self.assertEqual((POOLS.net, POOLS.tanks, POOLS.levels), (Net(3, ((1, 2, FUSE),)), ((1, SLOPE, 3), (2, SLOPE, 0)), (3, 0)))
        for name in ("net", "tanks", "levels"):
            self.assertIn(name, vars(Tanks))
            with self.assertRaises(AttributeError):
                setattr(POOLS, name, 1)

    def test_methods_stand_in_the_class(self):
        for name in """__init__ __len__ __eq__ __str__ joined stored sums rest_or_loop is_rest_or_loop tick is_tick taken filled run
                is_run""".split():
            self.assertIn(name, vars(Tanks))
        self.assertEqual(Tanks.__module__, "risenets.time.tanks")

    def test_text_and_length(self):
        self.assertEqual((str(POOLS), len(POOLS)), ("2 tanks, 3 stored", 2))
        self.assertEqual(str(Tanks(Net(2, ()), ((1, SLOPE, 0),))), "1 tanks, 0 stored")
        self.assertEqual(len(Tanks(Net(2, ()), ((1, SLOPE, 0),) * 6)), 6)

    def test_equal(self):
        self.assertTrue(POOLS == Tanks(Net(3, ((1, 2, FUSE),)), ((1, SLOPE, 3), (2, SLOPE, 0))))
        self.assertFalse(POOLS != Tanks(Net(3, ((1, 2, FUSE),)), ((1, SLOPE, 3), (2, SLOPE, 0))))
        others = [Tanks(Net(4, ((1, 2, FUSE),)), POOLS.tanks), Tanks(Net(3, ((1, 2, DIODE),)), POOLS.tanks), POOLS.filled((3, 1)),
                  Tanks(POOLS.net, POOLS.tanks[::-1]), Tanks(POOLS.net, POOLS.tanks[:1]), Tanks(POOLS.net, ((1, SLOPE, 3), (1, SLOPE, 0)))]
        for other in others + ODD + [POOLS.net, POOLS.tanks, (POOLS.net, POOLS.tanks)]:
            self.assertFalse(POOLS == other)
            self.assertTrue(POOLS != other)

    def test_no_iteration(self):
        with self.assertRaises(TypeError):
            iter(POOLS)
        with self.assertRaises(TypeError):
            list(POOLS)

    def test_methods_change_nothing(self):
        before = (POOLS.net, POOLS.tanks, str(POOLS))
        for _ in range(2):
            POOLS.tick(), POOLS.run(5), POOLS.filled((1, 1)), POOLS.joined(), POOLS.sums(), POOLS.rest_or_loop()
        self.assertEqual((POOLS.net, POOLS.tanks, str(POOLS)), before)
        self.assertEqual((POOLS.tick(), POOLS.run(5)), (POOLS.tick(), POOLS.run(5)))


class JoinedTests(unittest.TestCase):
    def test_joined(self):
        self.assertEqual(POOLS.joined().wires, ((1, 2, FUSE), (1, 0, moved(SLOPE, -3, 0)), (2, 0, SLOPE)))
        for tanks in TANKS:
            self.assertEqual(tanks.joined(), joined_net(tanks))

    def test_stored(self):
        for tanks in TANKS:
            told = tanks.stored()
            self.assertEqual(told, stored(tanks))
            self.assertGreaterEqual(told, 0)
            empty = all(is_on(rise, level, 0) for _, rise, level in tanks.tanks)
            self.assertEqual(told == 0, empty)
        self.assertEqual(Tanks(Net(2, ()), ((1, FREE, -7),)).stored(), 0)
        self.assertEqual(Tanks(Net(2, ()), ((1, ("plumb", 4), 4),)).stored(), 0)
        self.assertEqual(Tanks(Net(2, ()), ((1, turned(SLOPE), -3), (1, SLOPE, 3))).stored(), 6)

    def test_sums(self):
        net = Net(6, ((1, 2, FUSE), (0, 3, FUSE), (5, 4, FUSE)))
        tanks = Tanks(net, ((2, SLOPE, 3), (3, SLOPE, 1), (1, FREE, -9), (4, SLOPE, 0), (2, SLOPE, 2)))
        self.assertEqual(tanks.sums(), {1: -4, 4: 0})
        self.assertEqual(Tanks(net, ((3, SLOPE, 1),)).sums(), {})
        for tanks in TANKS:
            wanted = {}
            for knots in components(tanks.net):
                levels = [level for knot, _, level in tanks.tanks if knot in knots]
                if 0 not in knots and levels:
                    wanted[knots[0]] = sum(levels)
            told = tanks.sums()
            self.assertEqual((told, list(told)), (wanted, sorted(wanted)))


class RestTests(unittest.TestCase):
    def test_rest_or_loop(self):
        words = []
        for tanks in TANKS:
            told, loops, net = tanks.rest_or_loop(), bars(tanks), joined_net(tanks)
            words.append(told[0])
            self.assertIs(tanks.is_rest_or_loop(told), True)
            still = (0,) * len(net)
            if told[0] == "rest":
                self.assertEqual((len(told), loops), (2, []))
                self.assertTrue(rests(net, (still, told[1])))
            else:
                self.assertIn(told[1], loops)
            for loop in all_loops(net):
                self.assertIs(tanks.is_rest_or_loop(("loop", loop)), loop in loops)
        self.assertGreater(min(words.count("rest"), words.count("loop")), 15)

    def test_rest_by_trying_all(self):
        for tanks in TANKS:
            net = joined_net(tanks)
            if net.knots <= 3:
                for heights in windows(net.knots, 4):
                    right = rests(net, ((0,) * len(net), heights))
                    self.assertIs(tanks.is_rest_or_loop(("rest", heights)), right)
                    self.assertTrue(not right or tanks.rest_or_loop()[0] == "rest")

    def test_judge(self):
        full = POOLS.filled((2, 1))
        right = [("rest", (n, n + 1, n + 1)) for n in (0, -7, 10 ** 99)]
        wrong = [("rest", (0, 2, 1)), ("rest", (0, 1)), ("rest", [0, 1, 1]), ("rest", (0, True, 1)), ("rest", (False, 1, 1)), ("Rest", (0, 1, 1)),
                 ["rest", (0, 1, 1)], ("rest", (0, 1, 1), 0), ("rest", None), ("loop", ((1, 1), (2, -1), (0, -1))), ("rest", (0, 0, 1))]
        self.assertIs(full.is_rest_or_loop(("rest", (0, 1, 1))), True)
        assert_judges(self, lambda value: full.is_rest_or_loop(value), (), right, [value for value in wrong if value not in right])
        right = [("loop", ((1, 1), (2, -1), (0, -1))), ("loop", ((2, -1), (0, -1), (1, 1))), ("loop", ((0, -1), (1, 1), (2, -1)))]
        wrong = [("loop", ((1, -1), (0, 1), (2, 1))), ("loop", ((1, True), (2, -1), (0, -1))), ("loop", ((1, 1), (2, -1), (False, -1))),
                 ("loop", [(1, 1), (2, -1), (0, -1)]), ("Loop", right[0][1]), ("loop", right[0][1], 0), ("loop", ((1, 1), (2, -1))), ("loop", ()),
                 ("rest", (0, 1, 1)), ("rest", right[0][1]), ["loop", right[0][1]], right[0][1]]
        assert_judges(self, lambda value: POOLS.is_rest_or_loop(value), (), right, wrong)

    def test_either_side_of_the_ground(self):
        back = Tanks(Net(2, ((1, 0, FUSE),)), ((1, turned(SLOPE), -3),))
        self.assertIn(back.rest_or_loop(), [("loop", ((0, 1), (1, -1))), ("loop", ((1, -1), (0, 1)))])
        self.assertEqual(back.run(9), ((-3,), (-1,)))
        loop = Tanks(Net(2, ((0, 1, DIODE),)), ((1, SLOPE, 2),))
        self.assertEqual(loop.rest_or_loop()[0], "rest")
        self.assertEqual(Tanks(Net(2, ((0, 1, DIODE),)), ((1, turned(SLOPE), -2),)).rest_or_loop()[0], "loop")


class TickTests(unittest.TestCase):
    def test_tick(self):
        for tanks in TANKS:
            told = tanks.tick()
            self.assertTrue(is_right_tick(tanks, told), (tanks.net.wires, tanks.tanks, told))
            self.assertIs(tanks.is_tick(told), True)
            self.assertEqual(any(told[0]), bool(bars(tanks)))

    def test_states_are_ticks_but_at_rest(self):
        right = wrong = 0
        for tanks in TANKS:
            net = joined_net(tanks)
            if len(net) > 3 or net.knots > 3:
                continue
            for state in itertools.product(windows(len(net), 2), [row for row in windows(net.knots, 2) if row[0] == 0]):
                wanted = is_right_tick(tanks, state)
                self.assertIs(tanks.is_tick(state), wanted)
                right += wanted
                wrong += not wanted and rests(net, state)
        self.assertGreater(right, 50)
        self.assertGreater(wrong, 2)

    def test_what_is_stored_is_taken(self):
        ticks = 0
        for tanks in TANKS:
            state = tanks.tick()
            levels = tuple(level + current for level, current in zip(tanks.levels, state[0][len(tanks.net):]))
            behind = with_levels(tanks, levels)
            taken = tanks.taken(state[0])
            left = behind.stored() + taken
            self.assertLessEqual(left, tanks.stored())
            self.assertEqual(left == tanks.stored(), not bars(tanks))
            self.assertEqual(behind.sums(), tanks.sums())
            ticks += any(state[0])
        self.assertGreater(ticks, 15)

    def test_taken(self):
        for tanks in TANKS:
            count = len(tanks.net) + len(tanks)
            for at in range(6):
                currents = spread(count, 3, at)
                areas = [area_under(rise, current) for (_, _, rise), current in zip(tanks.net.wires, currents)]
                wanted = None if None in areas else sum(area - area_under(rise, 0) for area, (_, _, rise) in zip(areas, tanks.net.wires))
                self.assertEqual(tanks.taken(currents), wanted)
            self.assertEqual(tanks.taken((0,) * count), 0)
        self.assertEqual(POOLS.taken((2, SIXTY, -SIXTY)), 0)
        hard = Tanks(Net(2, ((0, 1, STAIRS),)), ((1, SLOPE, 0),))
        self.assertEqual([hard.taken((n, 0)) for n in (-3, 0, 2, 5)], [3, 0, 3, 12])
        soft = Tanks(Net(2, ((0, 1, SOFT), (1, 0, SOFT))), ((1, SLOPE, 0),))
        self.assertEqual([soft.taken((n, m, 0)) for n, m in ((0, 0), (3, 0), (0, -2), (-1, 2), (4, 0), (0, -3))], [0, 3, 2, 3, None, None])

    def test_is_tick(self):
        right = [((1, -1, 1), (n, n + 1, n + 1)) for n in (0, 10 ** 99)] + [((2, -2, 2), (0, 1, 1))]
        wrong = [((0, 0, 0), (0, 2, 0)), ((1, -1, 1), (0, 1, 2)), ((True, -1, 1), (0, 1, 1)), ((1, -1, 1), (False, 1, 1)), [(1, -1, 1), (0, 1, 1)],
                 ((1, -1, 1), (0, 1, 1), 0), ((1, -1), (0, 1, 1)), ((1, -1, 1), (0, 1)), ((1, -1, 1), [0, 1, 1]), ("state", (1, -1, 1), (0, 1, 1)),
                 ((10 ** 99, -10 ** 99, 10 ** 99), (0, 1, 1)), ((1, -1, 1),), ((3, -3, 3), (0, 0, 0)), None]
        assert_judges(self, lambda value: POOLS.is_tick(value), (), right, wrong)
        still = Tanks(Net(2, ((1, 0, FREE),)), ((1, FREE, 4),))
        right = [((0, 0), (n, n)) for n in (0, -3, 10 ** 99)]
        assert_judges(self, lambda value: still.is_tick(value), (), right, [((1, -1), (0, 0)), ((-5, 5), (0, 0)), ((0, 0), (0, 1)), ((False, 0), (0, 0))])


class FilledTests(unittest.TestCase):
    def test_filled(self):
        for levels in ((2, 1), (0, 0), (3, 0), (FAR, FAR)):
            self.assertEqual(POOLS.filled(levels), Tanks(POOLS.net, ((1, SLOPE, levels[0]), (2, SLOPE, levels[1]))))
        self.assertEqual(POOLS.filled((2, 1)).rest_or_loop()[0], "rest")
        self.assertEqual(POOLS.filled((2, 1)).stored(), 1)

    def test_levels_at_the_ends_of_the_ranges(self):
        short = Tanks(Net(2, ()), ((1, ("steep", ((0, -2), (5, -2), (5, 3))), 0),))
        self.assertEqual(short.filled((7,)).levels, (7,))
        short = Tanks(Net(2, ()), ((1, ("steep", ((0, -2), (5, -2))), 0),))
        self.assertEqual([short.filled((level,)).levels for level in (0, 5)], [(0,), (5,)])
        for level in (-1, 6, FAR):
            assert_raises(self, InvalidTanks, None, short.filled, (level,))
        wide = Tanks(Net(2, ()), ((1, FREE, FAR),))
        self.assertEqual(wide.filled((-FAR,)).levels, (-FAR,))
        for level in (FAR + 1, -FAR - 1, SIXTY, LONG, 10 ** 99, True, None, "1", (0,)):
            assert_raises(self, InvalidTanks, None, wide.filled, (level,))

    def test_refusals(self):
        wrong = NO_INTEGERS + [0, [2, 1], (2,), (2, 1, 0), (2, -1), (-1, 1), (2, True), (True, 1), (2, None), (2, FAR + 1), (LONG, 0)]
        wrong = [value for value in wrong if value not in [(0, 0), (1, 2), (0, 1), (1, 0)] or any(part is True or part is False for part in value)]
        assert_refusals(self, POOLS.filled, [(2, 1)], {0: (wrong, InvalidTanks, None)})


class RunTests(unittest.TestCase):
    def check_run(self, tanks, most, rows):
        """Each row is behind a tick from the one ahead, up to rest, or so many ticks."""
        self.assertEqual(rows[0], tanks.levels)
        for ahead, behind in zip(rows, rows[1:]):
            self.assertTrue(bars(with_levels(tanks, ahead)))
            self.assertTrue(self.leads(tanks, ahead, behind), (tanks.net.wires, tanks.tanks, ahead, behind))
        self.assertTrue(len(rows) == most + 1 or not bars(with_levels(tanks, rows[-1])))
        self.assertLessEqual(len(rows), most + 1)
        self.assertLessEqual(len(rows) - 1, tanks.stored())

    def leads(self, tanks, ahead, behind):
        """Whether some tick leads from the one row to the other one, found by the wires' currents in a window."""
        own = with_levels(tanks, ahead)
        net, state = joined_net(own), own.tick()
        grown = tuple(after - before for before, after in zip(ahead, behind))
        return any(is_state(net, (row + grown, state[1])) for row in windows(len(tanks.net), 12))

    def test_run(self):
        lengths = []
        for tanks in TANKS:
            for most in (0, 1, 2, 30):
                rows = tanks.run(most)
                if len(tanks.net) <= 2:
                    self.check_run(tanks, most, rows)
                self.assertIs(tanks.is_run(most, rows), True)
                lengths.append(len(rows))
        self.assertGreater(len(set(lengths)), 2)

    def test_no_tick(self):
        self.assertEqual(POOLS.run(0), ((3, 0),))
        self.assertIs(POOLS.is_run(0, ((3, 0),)), True)
        self.assertIs(POOLS.is_run(1, ((3, 0),)), False)
        full = POOLS.filled((2, 1))
        for most in (0, 1, 1000):
            self.assertEqual(full.run(most), ((2, 1),))
            self.assertIs(full.is_run(most, ((2, 1),)), True)
            self.assertIs(full.is_run(most, ((2, 1), (2, 1))), False)

    def test_all_small_runs(self):
        for most in (1, 2):
            right = []
            for rows in itertools.product(list(itertools.product(range(4), repeat=2)), repeat=most):
                for count in range(1, most + 1):
                    value = ((3, 0),) + rows[:count]
                    wanted = all(bars(with_levels(POOLS, ahead)) and self.leads(POOLS, ahead, behind) for ahead, behind in zip(value, value[1:]))
                    wanted = wanted and (len(value) == most + 1 or not bars(with_levels(POOLS, value[-1])))
                    self.assertIs(POOLS.is_run(most, value), wanted)
                    right += [value] if wanted else []
            self.assertEqual(set(right), {((3, 0), (1, 2)), ((3, 0), (2, 1))})

    def test_cut_off_by_their_number(self):
        slow = Tanks(Net(2, ((1, 0, ("steep", ((-1, 0), (1, 0)))),)), ((1, ("flat", ((0, 0), (0, 1))), 50),))
        self.assertEqual(slow.run(3), ((50,), (49,), (48,), (47,)))
        self.assertEqual(slow.run(1000)[-1], (0,))
        self.assertEqual(len(slow.run(1000)), 51)
        rows = tuple((50 - k,) for k in range(51))
        for most in (0, 3, 49, 50, 51, 1000):
            for count in (most, most + 1, most + 2, 51):
                value = rows[:count]
                right = len(value) == most + 1 or len(value) == 51 and most >= 50
                self.assertIs(slow.is_run(most, value), right)

    def test_is_run(self):
        right = [((3, 0), (1, 2)), ((3, 0), (2, 1))]
        wrong = [((3, 0),), ((3, 0), (3, 0)), ((3, 0), (0, 3)), ((3, 0), (1, 1)), [(3, 0), (1, 2)], ((3, 0), [1, 2]), ((3, 0), (True, 2)),
                 ((3, False), (1, 2)), ((3, 0), (1, 2), (1, 2)), ((1, 2),), (), ((3, 0), (1,)), ((3, 0), None), ((3, 0), (1, 2, 0)), (3, 0),
                 ((3, 0), (10 ** 99, 3 - 10 ** 99)), ((3, 0), (-1, 4)), ((3, 0), (1, 2), (2, 1))]
        assert_judges(self, POOLS.is_run, (9,), right, wrong)

    def test_levels_of_any_size(self):
        wide = Tanks(Net(3, ((1, 2, FREE), (1, 0, ("steep", ((-FAR, 0), (FAR, 0)))))), ((1, FREE, FAR), (2, ("flat", ((0, -1), (0, 1))), FAR)))
        far = 10 ** 99
        self.assertEqual(wide.rest_or_loop()[0], "loop")
        self.assertIs(wide.is_run(5, ((FAR, FAR), (FAR + FAR, 0))), True)
        self.assertIs(wide.is_run(1, ((FAR, FAR), (far, 0))), False)
        free = Tanks(Net(3, ((1, 2, FREE),)), ((1, FREE, 0), (1, FREE, 0), (2, ("flat", ((0, -1), (0, 1))), 5)))
        for n in (0, 7, -far, far):
            self.assertIs(free.is_run(1, ((0, 0, 5), (n, 5 - n, 0))), True)
            self.assertIs(free.is_run(1, ((0, 0, 5), (n, 6 - n, 0))), False)
        self.assertIs(free.is_run(1, free.run(1)), True)
        self.assertLessEqual(digits(free.run(9)), 60)

    def test_refusals(self):
        wrong = (NO_INTEGERS + [-1, 1001, SIXTY], InvalidNumber, "given")
        assert_refusals(self, POOLS.run, [3], {0: wrong})
        assert_refusals(self, POOLS.is_run, [3, None], {0: wrong})
        self.assertEqual(POOLS.run(1000)[0], (3, 0))


class GreatTests(unittest.TestCase):
    def great(self, salt, corners=40, unit=10 ** 8):
        """Tanks as many and as great as they can be."""
        rise = stair("steep", corners, (-corners // 4 * unit, -corners // 4 * unit), unit)
        wires = tuple((k % 12, (k * (salt + 1) + 1 + k // 12) % 12, rise) for k in range(24) if k % 12 != (k * (salt + 1) + 1 + k // 12) % 12)[:18]
        store = stair("flat", 40, (-10 * unit, -10 * unit), unit)
        return Tanks(Net(12, wires), tuple((2 * k + 1, store, unit * (7 * k % 20 - 9) + k) for k in range(6)))

    def test_great_tanks(self):
        for salt, unit in itertools.product(range(2), (10 ** 8, 1)):
            tanks = self.great(salt, unit=unit)
            told = tanks.tick()
            self.assertIs(tanks.is_tick(told), True)
            self.assertIs(tanks.is_rest_or_loop(tanks.rest_or_loop()), True)
            self.assertLessEqual(digits(told), 60)
            rows = tanks.run(20)
            self.assertIs(tanks.is_run(20, rows), True)
            self.assertLessEqual(digits(rows), 60)

    def test_a_thousand_ticks(self):
        slow = ("steep", ((-1, 0), (1, 0)))
        store = ("flat", ((0, -FAR), (0, FAR)))
        tanks = Tanks(Net(7, tuple((k, k + 1, slow) for k in range(6))), tuple((k, store, FAR) for k in range(1, 7)))
        rows = tanks.run(1000)
        self.assertEqual((len(rows), rows[0]), (1001, (FAR,) * 6))
        self.assertIs(tanks.is_run(1000, rows), True)
        self.assertIs(tanks.is_run(999, rows), False)
        self.assertIs(tanks.is_run(1000, rows[:-1]), False)


class RefusalTests(unittest.TestCase):
    def test_refusals(self):
        net, right = Net(3, ((1, 2, FUSE),)), (1, SLOPE, 3)
        no_parts = [((knot, SLOPE, 3),) for knot in NO_INTEGERS + [0, 3, -1]] + [((1, rise, 3),) for rise in NO_RISES]
        no_parts += [((1, SLOPE, level),) for level in NO_INTEGERS + [-1, FAR + 1, SIXTY]]
        no_parts += [(right,) * 7, [right], (right, list(right)), (right, right[:2]), (right, right + (0,)), right, (right, None)]
        no_parts += [((1, ("level", 1), 0),), ((1, ("level", -1), 0),), ((1, ("steep", ((0, 1), (1, 1), (1, 2))), -1),), ((1, DIODE, -1),)]
        no_parts += [((1, ("steep", ((-1, 1), (0, 1), (0, 2), (3, 2))), 4),), ((1, ("steep", ((0, -2), (0, -1))), 0),), ((1, ("flat", ((0, 1), (0, 3))), 0),)]
        no_parts += [((1, stair("flat", 41, (0, -1)), 3),), ((1, ("flat", ((0, 0), (0, FAR + 1))), 0),), ((1, ("plumb", FAR + 1), FAR + 1),)]
        bad_net, bad_tanks = (NO_NETS, InvalidNet, None), (JUNK + [0] + no_parts, InvalidTanks, None)
        assert_refusals(self, Tanks, [net, (right,)], {0: bad_net, 1: bad_tanks})
        self.assertEqual(len(Tanks(net, ((1, stair("flat", 40, (0, -1)), 3), (2, ("flat", ((0, 0), (0, FAR))), 0)))), 2)

    def test_wires_that_are_not_passive(self):
        for rise in (BATTERY, ("plumb", 1), moved(FUSE, 3, 0), moved(STEPS, 1, 0)):
            for wires in (((0, 1, rise),), ((0, 1, FUSE), (1, 2, rise))):
                assert_raises(self, InvalidOperation, None, Tanks, Net(3, wires), ((1, SLOPE, 1),))
                assert_raises(self, InvalidTanks, None, Tanks, Net(3, wires), ((1, SLOPE, -1),))
        self.assertEqual(len(Tanks(Net(3, ((0, 1, STEPS), (1, 2, ("plumb", 0)))), ((1, SLOPE, 1),))), 1)

    def test_too_many_wires(self):
        for wires, tanks in ((24, 1), (19, 6), (20, 5)):
            net = plain_net(3, ((0, 1),) * wires)
            assert_raises(self, InvalidOperation, None, Tanks, net, ((1, SLOPE, 1),) * tanks)
            assert_raises(self, InvalidTanks, None, Tanks, net, ((1, SLOPE, -1),) * tanks)
            own = Tanks(plain_net(3, ((0, 1),) * (24 - tanks)), ((1, SLOPE, 1),) * tanks)
            self.assertEqual(len(own.joined()), 24)
            self.assertIs(own.is_tick(own.tick()), True)

    def test_taken(self):
        wrong = JUNK + [0, (1, -1), (1, -1, 1, 0), [1, -1, 1], (True, -1, 1), (1, -1, None), (1, -1, LONG), (-LONG, 0, 0), (1, -1, "1")]
        assert_refusals(self, POOLS.taken, [(1, -1, 1)], {0: (wrong, InvalidCurrents, None)})

    def test_heights_in_common_at_rest(self):
        """At rest two tanks that a row of wires joins, each with the tension 0 alone at rest, have a height in common."""
        soft = ("steep", ((-9, 0), (9, 0)))
        shown = 0
        for first, second in itertools.product(range(0, 5), repeat=2):
            tanks = Tanks(Net(4, ((1, 2, soft), (3, 2, soft))), ((1, SLOPE, first), (3, SLOPE, second)))
            if tanks.rest_or_loop()[0] == "rest":
                heights = tanks.rest_or_loop()[1]
                self.assertEqual((heights[1], drops(tanks.net, heights)), (heights[3], (0, 0)))
                shown += 1
        self.assertGreater(shown, 5)


class NotTrueTests(unittest.TestCase):
    """[18.5]: none of these is true."""

    def test_at_rest(self):
        full = POOLS.filled((2, 1))
        self.assertEqual((full.rest_or_loop()[0], full.stored(), full.levels), ("rest", 1, (2, 1)))
        self.assertTrue(full.is_tick(((0, 0, 0), (0, 1, 1))) and full.is_tick(((0, 0, 0), (7, 8, 8))))

    def test_a_level_that_fell_does_not_rise(self):
        """A tank that runs into an empty one is filled by a third one, slowly."""
        slow, steep = ("steep", ((-4, 0), (4, 0))), ("flat", tuple((k, k + more) for k in range(19) for more in (0, 1)))
        tanks = Tanks(Net(4, ((1, 2, slow), (2, 3, FREE))), ((1, steep, 100), (2, steep, 10), (3, steep, 0)))
        self.assertEqual([row[1] for row in tanks.run(2)], [10, 7, 9])


if __name__ == "__main__":
    unittest.main()
