"""Stage 16: recipes, or a bridge."""

import itertools
import unittest

from helpers import (
    BATTERY, DIODE, FUSE, JUNK, NETS, NO_INTEGERS, STAIRS, STEPS, all_ways, assert_judges, assert_raises, assert_refusals,
    dressed, plain_net, small_rises, spread, stair)
from risenets.base.ranges import shared_range
from risenets.ends.recipes import between, is_apart, is_bridge, is_recipe, joined, recipe_or_bridge, recipe_rise
from risenets.ends.seen import seen
from risenets.errors import InvalidNumber, InvalidOperation, Refused, TooMany
from risenets.net.nets import Net
from risenets.rise.joins import beside, in_row, turned
from risenets.rise.rises import currents_of, tensions_of
from test_nets import BAD_NET
from test_seen import LONG_ROW

CHAIN = Net(4, ((0, 1, FUSE), (2, 1, DIODE), (2, 1, DIODE), (3, 0, STAIRS)))
CHAIN_RECIPE = ("row", ("wire", 0, 1), ("side", ("wire", 1, -1), ("wire", 2, -1)))
FOUR = Net(4, ((0, 1, STAIRS), (0, 2, STAIRS), (1, 2, STAIRS), (1, 3, STAIRS), (2, 3, STAIRS)))
TWO, ODD_ROW = Net(3, ((0, 1, FUSE), (1, 2, DIODE))), Net(3, ((0, 1, ("plumb", 1)), (1, 2, ("plumb", 2))))
WHOLE = ("row", ("wire", 0, 1), ("wire", 1, 1))


def some_shapes():
    """Nets of many shapes, those of loops beside loops and of loose parts among them."""
    found = list(NETS)
    for salt in range(90):
        knots, count = 2 + salt % 6, 1 + salt // 5 % 9
        numbers = spread(2 * count, 50, salt)
        ends = [((a + 50) % knots, (b + 50) % knots) for a, b in zip(numbers[::2], numbers[1::2])]
        found.append(plain_net(knots, [pair for pair in ends if pair[0] != pair[1]]))
    return found


SHAPES = [net for net in some_shapes() if net.knots > 1]
CASES = [(net, start, goal) for net in SHAPES for start, goal in {(0, 1), (net.knots - 1, 0), (1, net.knots - 1)}
         if start != goal]


def ends_of_recipe(net, recipe):
    """The first and the second knot of a recipe, all its knots and all its wires; None if it is none."""
    if recipe[0] == "wire":
        ends = net.wires[recipe[1]][:2][::recipe[2]]
        return ends[0], ends[1], set(ends), [recipe[1]]
    one, other = ends_of_recipe(net, recipe[1]), ends_of_recipe(net, recipe[2])
    if one is None or other is None:
        return None
    shared = one[2] & other[2]
    if recipe[0] == "row" and one[1] == other[0] and shared == {one[1]}:
        return one[0], other[1], one[2] | other[2], one[3] + other[3]
    if recipe[0] == "side" and one[:2] == other[:2] and shared == set(one[:2]):
        return one[0], one[1], one[2] | other[2], one[3] + other[3]
    return None


def is_right(net, start, goal, recipe):
    """Whether the recipe is one of the ends, by the words of [16.2]."""
    told = ends_of_recipe(net, recipe)
    if told is None:
        return False
    inner = sorted({wire for way in all_ways(net, start, goal) for wire, _ in way})
    return told[:2] == (start, goal) and sorted(told[3]) == inner


def is_right_bridge(net, start, goal, hubs, ways):
    """Whether these are a bridge, by the words of [16.3]."""
    inner = {wire for way in all_ways(net, start, goal) for wire, _ in way} | {len(net)}
    ends = [wire[:2] for wire in net.wires] + [(start, goal)]
    within = []
    for (first, last), way in zip(itertools.combinations(hubs, 2), ways):
        knots = [first]
        for wire, turn in way:
            begin, end = ends[wire][::turn]
            if wire not in inner or begin != knots[-1]:
                return False
            knots.append(end)
        if knots[-1] != last:
            return False
        within += knots[1:-1]
    return (len(ways) == 6 and list(hubs) == sorted(set(hubs)) and len(hubs) == 4 and all(ways)
            and len(set(within)) == len(within) and not set(within) & set(hubs))


def parts_of(recipe):
    """The recipe, and all of its parts."""
    return [recipe] + ([] if recipe[0] == "wire" else parts_of(recipe[1]) + parts_of(recipe[2]))


def rise_along(net, recipe):
    """The rise along a recipe by stage 3, None if two parts are apart."""
    if recipe[0] == "wire":
        rise = net.wires[recipe[1]][2]
        return rise if recipe[2] == 1 else turned(rise)
    one, other = rise_along(net, recipe[1]), rise_along(net, recipe[2])
    if one is None or other is None:
        return None
    try:
        return in_row(one, other) if recipe[0] == "row" else beside(one, other)
    except Refused:
        return None


def all_parts_apart(net, recipe):
    """All parts whose own two have rises, but do not go together."""
    return [part for part in parts_of(recipe) if part[0] != "wire" and rise_along(net, part) is None
            and rise_along(net, part[1]) is not None and rise_along(net, part[2]) is not None]


def other_way_round(recipe):
    """The recipe, each pair of sides exchanged, and rows put together from the other end."""
    if recipe[0] == "wire":
        return recipe
    word, one, other = recipe[0], other_way_round(recipe[1]), other_way_round(recipe[2])
    if word == "side":
        return (word, other, one)
    if one[0] == "row":
        return (word, one[1], (word, one[2], other))
    return (word, one, other)


class BetweenTests(unittest.TestCase):
    def test_between(self):
        hanging = 0
        for net, start, goal in CASES:
            inner = tuple(sorted({wire for way in all_ways(net, start, goal) for wire, _ in way}))
            self.assertEqual(between(net, start, goal), inner, (net.wires, start, goal))
            self.assertEqual(between(net, goal, start), inner)
            hanging += 0 < len(inner) < len(net)
        self.assertGreater(hanging, 30)

    def test_no_way(self):
        self.assertEqual(between(Net(2, ()), 0, 1), ())
        self.assertEqual(between(plain_net(4, ((0, 1), (2, 3), (2, 3))), 0, 2), ())
        self.assertEqual(between(plain_net(4, ((0, 1), (1, 2), (1, 2), (1, 3))), 0, 1), (0,))
        self.assertEqual(between(CHAIN, 3, 1), (0, 3))

    def test_twins(self):
        self.assertEqual(between(plain_net(2, ((0, 1),) * 24), 1, 0), tuple(range(24)))

    def test_seen_of_the_wires_between(self):
        shown = 0
        for at, (net, start, goal) in enumerate(CASES):
            dressed_net = dressed(net, at)
            told = seen(dressed_net, start, goal)
            inner = between(net, start, goal)
            own = seen(Net(net.knots, tuple(dressed_net.wires[wire] for wire in inner)), start, goal)
            if told[0] == "rise":
                self.assertEqual(told, own)
                shown += len(inner) < len(net)
        self.assertGreater(shown, 10)


class RecipeTests(unittest.TestCase):
    def test_recipe_or_bridge(self):
        words = []
        for net, start, goal in CASES:
            told = recipe_or_bridge(net, start, goal)
            words.append(told[0])
            knots, wires = joined(net, start, goal)
            if not between(net, start, goal):
                self.assertEqual((told, knots, wires), (("none",), 2, 0))
            elif told[0] == "recipe":
                self.assertTrue(is_right(net, start, goal, told[1]), (net.wires, told))
                self.assertIs(is_recipe(net, start, goal, told[1]), True)
                self.assertEqual((len(told), knots, wires), (2, 2, 1))
            else:
                self.assertTrue(is_right_bridge(net, start, goal, *told[1:]), (net.wires, start, goal, told))
                self.assertIs(is_bridge(net, start, goal, told), True)
                self.assertGreater(wires, 4)
        for word in ("recipe", "bridge", "none"):
            self.assertGreater(words.count(word), 9)

    def test_other_shapes_of_recipes(self):
        changed = 0
        for net, start, goal in CASES:
            told = recipe_or_bridge(net, start, goal)
            if told[0] != "recipe":
                continue
            other = other_way_round(told[1])
            changed += other != told[1]
            self.assertIs(is_recipe(net, start, goal, other), True)
            self.assertIs(is_recipe(net, goal, start, other), False)
            for part in parts_of(told[1])[1:]:
                self.assertIs(is_recipe(net, start, goal, part), False)
        self.assertGreater(changed, 30)

    def test_all_small_values(self):
        net = plain_net(3, ((0, 1), (2, 1), (0, 2)))
        wires = [("wire", wire, way) for wire in range(3) for way in (1, -1)]
        pairs = [(word, one, other) for word in ("row", "side") for one in wires for other in wires]
        triples = [(word, one, other) for word in ("row", "side") for one, other in
                   list(itertools.product(pairs, wires)) + list(itertools.product(wires, pairs))]
        for small, start, goal in ((net, 0, 2), (net, 1, 2), (plain_net(2, ((0, 1), (1, 0), (0, 1))), 0, 1), (CHAIN, 0, 2)):
            found = [value for value in wires + pairs + triples if is_recipe(small, start, goal, value)]
            self.assertEqual(found, [value for value in wires + pairs + triples if is_right(small, start, goal, value)])
            self.assertGreater(len(found), 1)

    def test_long_recipes(self):
        row = plain_net(12, [(k, k + 1) for k in range(11)])
        wide = plain_net(2, ((0, 1),) * 24)
        ladder = plain_net(12, [(k, k + 1) for k in range(11)] + [(0, k) for k in range(2, 12)])
        for net, start, goal in ((row, 0, 11), (row, 11, 0), (wide, 1, 0), (ladder, 0, 11), (ladder, 11, 0)):
            told = recipe_or_bridge(net, start, goal)
            self.assertEqual(told[0], "recipe")
            self.assertIs(is_recipe(net, start, goal, told[1]), True)
        recipe = ("wire", 0, 1)
        for wire in range(1, 24):
            recipe = ("side", ("wire", wire, 1), recipe) if wire % 2 else ("side", recipe, ("wire", wire, 1))
        self.assertIs(is_recipe(wide, 0, 1, recipe), True)
        self.assertIs(is_recipe(wide, 0, 1, ("side", recipe, ("wire", 0, 1))), False)
        for _ in range(900):
            recipe = ("side", recipe, ("wire", 0, 1))
        self.assertIs(is_recipe(wide, 0, 1, recipe), False)

    def test_is_recipe(self):
        right = [CHAIN_RECIPE, ("row", ("wire", 0, 1), ("side", ("wire", 2, -1), ("wire", 1, -1)))]
        wrong = [("row", ("wire", 0, True), CHAIN_RECIPE[2]), ("row", ("wire", False, 1), CHAIN_RECIPE[2]), list(CHAIN_RECIPE),
                 ("row", ["wire", 0, 1], CHAIN_RECIPE[2]), ("row", CHAIN_RECIPE[2], ("wire", 0, 1)), CHAIN_RECIPE + (0,),
                 ("Row", *CHAIN_RECIPE[1:]), ("row", ("wire", 0, 1), ("side", ("wire", 1, -1), ("wire", 1, -1))), ("row", ("wire", 0, 1)),
                 ("row", ("wire", 0, 1), ("wire", 1, -1)), ("row", ("wire", 0, -1), CHAIN_RECIPE[2]), ("wire", 0, 1), ("wire", 4, 1),
                 ("side", ("wire", 0, 1), CHAIN_RECIPE[2]), ("row", ("wire", 0, 1), ("side", ("wire", 1, -1), ("wire", 2, 1))),
                 ("row", ("wire", 0, 1, 0), CHAIN_RECIPE[2]), ("row", ("wire", 0, 2), CHAIN_RECIPE[2]), ("row", ("wire", -4, 1), CHAIN_RECIPE[2]),
                 ("row", None, CHAIN_RECIPE[2]), ("row", ("row", ("wire", 3, 1), ("wire", 0, 1)), CHAIN_RECIPE[2]), ("recipe", CHAIN_RECIPE),
                 ("row", ("Wire", 0, 1), CHAIN_RECIPE[2]), ("row", ("", 0, 1), CHAIN_RECIPE[2]), ("row", (None, 0, 1), CHAIN_RECIPE[2]),
                 ("row", ("wire", 0, 1), ("side", ("wire", 1, 0), ("wire", 2, -1))), ("row", ("wire", 0, 1), ("side", ("wire", 1, -1), ("wire", 2, 2))),
                 ("row", ("wire", 0, 1), ("side", ("wire", 1, -1), ("wire", 2, -2))), (["row"], *CHAIN_RECIPE[1:]), ("row", ("wire", None, 1), CHAIN_RECIPE[2]), ("row", ("wire", 10 ** 99, 1), CHAIN_RECIPE[2])]
        assert_judges(self, is_recipe, (CHAIN, 0, 2), right, wrong)
        assert_judges(self, is_recipe, (Net(2, ()), 0, 1), [], wrong + right + [("wire", 0, 1), ("none",)])

    def test_parts_with_further_knots_in_common(self):
        net = plain_net(3, ((0, 1), (1, 2), (0, 1), (1, 2)))
        one, two, three, four = [("wire", wire, 1) for wire in range(4)]
        self.assertIs(is_recipe(net, 0, 2, ("row", ("side", one, three), ("side", two, four))), True)
        self.assertIs(is_recipe(net, 0, 2, ("side", ("row", one, two), ("row", three, four))), False)
        self.assertIs(is_recipe(net, 0, 2, ("side", ("row", one, four), ("row", three, two))), False)
        back = plain_net(2, ((0, 1), (1, 0)))
        self.assertIs(is_recipe(back, 0, 1, ("side", ("wire", 0, 1), ("wire", 1, -1))), True)
        self.assertIs(is_recipe(back, 0, 1, ("side", ("wire", 0, 1), ("wire", 1, 1))), False)
        self.assertIs(is_recipe(back, 0, 1, ("row", ("wire", 0, 1), ("wire", 1, 1))), False)


class BridgeTests(unittest.TestCase):
    def test_ways_of_more_steps(self):
        net = plain_net(8, ((0, 4), (4, 1), (2, 0), (2, 5), (5, 6), (6, 1), (3, 1), (3, 2), (0, 7)))
        told = recipe_or_bridge(net, 0, 3)
        self.assertEqual(told[:2], ("bridge", (0, 1, 2, 3)))
        self.assertEqual(told[2], (((0, 1), (1, 1)), ((2, -1),), ((9, 1),), ((5, -1), (4, -1), (3, -1)), ((6, -1),), ((7, -1),)))
        self.assertEqual(joined(net, 0, 3), (4, 5))

    def test_bridge_without_the_end_wire(self):
        whole = [(k, j) for k in range(2, 6) for j in range(k + 1, 6)]
        net = plain_net(6, whole + [(0, 2), (3, 1)])
        told = recipe_or_bridge(net, 0, 1)
        self.assertEqual(told[0], "bridge")
        ways = tuple(((wire, 1),) for wire in range(6))
        self.assertIs(is_bridge(net, 0, 1, ("bridge", (2, 3, 4, 5), ways)), True)
        other = (((6, -1), (8, 1), (7, -1)), *ways[1:])
        self.assertIs(is_bridge(net, 0, 1, ("bridge", (2, 3, 4, 5), other)), True)
        self.assertEqual(joined(net, 0, 1), (6, 8))
        self.assertEqual(recipe_or_bridge(net, 0, 2), ("recipe", ("wire", 6, 1)))
        # What hangs gives no bridge.
        self.assertIs(is_bridge(net, 0, 2, ("bridge", (2, 3, 4, 5), ways)), False)

    def test_wrong_bridges(self):
        taken = 0
        for net, start, goal in CASES:
            told = recipe_or_bridge(net, start, goal)
            if told[0] != "bridge":
                continue
            _, hubs, ways = told
            values = [(hubs, ways[:k] + (way,) + ways[k + 1:]) for k in range(6) for way in ways + (((len(net), 1),), ((len(net), -1),))]
            values += [(hubs, ways[:k] + (tuple((wire, -turn) for wire, turn in ways[k][::-1]),) + ways[k + 1:]) for k in range(6)]
            values += [(hubs, ways[:k] + (((wire, turn),),) + ways[k + 1:]) for k in range(6) for wire in range(len(net)) for turn in (1, -1)]
            values += [(hubs, ways[1:]), (hubs, ways + ways[:1]), (hubs[1:], ways), (hubs[::-1], ways), (hubs, ways[::-1])]
            for some, all_six in values:
                right = len(some) == 4 and is_right_bridge(net, start, goal, some, all_six)
                self.assertIs(is_bridge(net, start, goal, ("bridge", some, all_six)), right, (net.wires, start, goal, some, all_six))
                taken += right
        self.assertGreater(taken, 100)

    def test_is_bridge(self):
        ways = (((0, 1),), ((1, 1),), ((5, 1),), ((2, 1),), ((3, 1),), ((4, 1),))
        hubs = (0, 1, 2, 3)
        wrong = [("bridge", hubs, ways[:5]), ("bridge", hubs, list(ways)), ("bridge", list(hubs), ways), ("Bridge", hubs, ways),
                 ["bridge", hubs, ways], ("bridge", (0, True, 2, 3), ways), ("bridge", (False, 1, 2, 3), ways), (hubs, ways),
                 ("bridge", hubs, (((0, True),), *ways[1:])), ("bridge", hubs, (((False, 1),), *ways[1:])), ("bridge", hubs, ways, 0),
                 ("bridge", hubs, ([(0, 1)], *ways[1:])), ("bridge", hubs, (([0, 1],), *ways[1:])), ("bridge", hubs, ((), *ways[1:])),
                 ("bridge", hubs, (((1, 1), (2, -1)), *ways[1:])), ("bridge", hubs, (((6, 1),), *ways[1:])), ("bridge", hubs, (None, *ways[1:])),
                 ("bridge", (0, 2, 1, 3), ways), ("bridge", (0, 1, 2, 2), ways),
                 ("bridge", (0, 2, 1, 3), (ways[1], ways[0], ways[2], ((2, -1),), ways[5], ways[4])), ("bridge", hubs, (((-6, 1),), *ways[1:])),
                 ("bridge", hubs, (((0, 1), (0, -1), (0, 1)), *ways[1:])), ("bridge", (0, 1, 2, 4), ways), ("bridge", (0, 1, 2, None), ways)]
        assert_judges(self, is_bridge, (FOUR, 0, 3), [("bridge", hubs, ways)], wrong)
        assert_judges(self, is_bridge, (FOUR, 0, 1), [], wrong + [("bridge", hubs, ways)])
        back = [("bridge", hubs, (*ways[:2], ((5, way),), *ways[3:])) for way in (-1, 0, 2, -2, None)]
        assert_judges(self, is_bridge, (FOUR, 3, 0), back[:1], back[1:] + wrong + [("bridge", hubs, ways)])

    def test_great_nets(self):
        full = plain_net(7, list(itertools.combinations(range(7), 2)))
        cube = plain_net(8, [(k, k ^ bit) for k in range(8) for bit in (1, 2, 4) if k < k ^ bit])
        wheel = plain_net(12, [(0, k) for k in range(1, 12)] + [(k, k % 11 + 1) for k in range(1, 12)])
        for net, left in ((full, (7, 21)), (cube, (8, 12)), (wheel, (12, 22))):
            for start, goal in ((0, 1), (net.knots - 1, 2)):
                told = recipe_or_bridge(net, start, goal)
                self.assertTrue(is_right_bridge(net, start, goal, *told[1:]))
                self.assertIs(is_bridge(net, start, goal, told), True)
                self.assertEqual(joined(net, start, goal), left)


class JoinedTests(unittest.TestCase):
    def test_joined(self):
        self.assertEqual(joined(CHAIN, 0, 2), (2, 1))
        self.assertEqual(joined(FOUR, 0, 3), (4, 5))
        self.assertEqual(joined(Net(3, ()), 0, 2), (2, 0))
        self.assertEqual(joined(plain_net(4, ((2, 3), (2, 3))), 0, 1), (2, 0))

    def test_twins_and_rows_in_a_bridge(self):
        ends = [wire[:2] for wire in FOUR.wires]
        for wire in range(5):
            tail, head = ends[wire]
            twin = plain_net(4, ends + [(head, tail)])
            row = plain_net(5, ends[:wire] + ends[wire + 1:] + [(tail, 4), (4, head)])
            for net in (twin, row):
                self.assertEqual(joined(net, 0, 3), (4, 5))

    def test_another_sequence_leaves_as_many(self):
        for net, start, goal in CASES:
            for wires in (net.wires[::-1], net.wires[1::2] + net.wires[::2]):
                other = Net(net.knots, tuple((head, tail, rise) for tail, head, rise in wires))
                self.assertEqual(joined(other, start, goal), joined(net, start, goal))


class RiseTests(unittest.TestCase):
    def test_rise_of_a_recipe_is_seen(self):
        words = []
        for at, (shape, start, goal) in enumerate(CASES * 4):
            net = dressed(shape, at)
            told = recipe_or_bridge(net, start, goal)
            if told[0] != "recipe":
                continue
            recipe = told[1]
            own = Net(net.knots, tuple(net.wires[wire] for wire in between(net, start, goal)))
            for same in (recipe, other_way_round(recipe)):
                found = recipe_rise(net, start, goal, same)
                words.append(found[0])
                apart = all_parts_apart(net, same)
                if found[0] == "rise":
                    self.assertEqual(apart, [])
                    self.assertEqual(found, seen(own, start, goal))
                else:
                    self.assertIn(found[1], apart)
                    self.assertNotEqual(seen(own, start, goal)[0], "rise")
                for part in parts_of(same):
                    self.assertIs(is_apart(net, start, goal, same, part), part in apart)
        self.assertGreater(min(words.count("rise"), words.count("apart")), 50)

    def test_what_is_apart(self):
        """In a row two parts are apart exactly if their currents are, and a cut fights; side by side, their tensions."""
        recipe = ("side", ("wire", 0, 1), ("wire", 1, 1))
        for one, other in itertools.product(small_rises()[::3], repeat=2):
            for net, goal, whole, ranges, word in ((Net(3, ((0, 1, one), (1, 2, other))), 2, WHOLE, currents_of, "cut"),
                                                   (Net(2, ((0, 1, one), (0, 1, other))), 1, recipe, tensions_of, "loop")):
                told = recipe_rise(net, 0, goal, whole)
                apart = shared_range(ranges(one), ranges(other)) is None
                self.assertEqual(told[0], "apart" if apart else "rise")
                self.assertEqual(seen(net, 0, goal)[0], word if apart else "rise")
                self.assertIs(is_apart(net, 0, goal, whole, whole), apart)

    def test_two_parts_apart(self):
        net = Net(4, ((0, 1, BATTERY), (0, 1, ("level", 4)), (1, 2, FUSE), (2, 3, ("plumb", 1)), (2, 3, ("level", 0)), (3, 2, BATTERY)))
        first, last = ("side", ("wire", 0, 1), ("wire", 1, 1)), ("side", ("wire", 4, 1), ("wire", 5, -1))
        recipe = ("row", ("row", first, ("wire", 2, 1)), ("side", ("wire", 3, 1), last))
        right = [first, last]
        self.assertIn(recipe_rise(net, 0, 3, recipe), [("apart", part) for part in right])
        wrong = [recipe, recipe[1], recipe[2], ("wire", 2, 1), ("side", ("wire", 1, 1), ("wire", 0, 1)), list(first), ("side", ("wire", 0, 1)),
                 ("side", ("wire", False, 1), ("wire", 1, 1)), ("side", ("wire", 0, True), ("wire", 1, 1)), ("side", ["wire", 0, 1], ("wire", 1, 1)),
                 ("side", ("wire", 0, 1), ("wire", True, 1)), ("Side", *first[1:]), ("row", *first[1:]), first + (0,), ("apart", first), None]
        assert_judges(self, is_apart, (net, 0, 3, recipe), right, wrong)

    def test_turned_wires(self):
        for rise in small_rises()[::4]:
            net = Net(2, ((1, 0, rise),))
            self.assertEqual(recipe_rise(net, 0, 1, ("wire", 0, -1)), ("rise", turned(rise)))
            self.assertEqual(recipe_rise(net, 1, 0, ("wire", 0, 1)), ("rise", rise))

    def test_too_many(self):
        recipe = recipe_or_bridge(LONG_ROW, 0, 11)[1]
        assert_raises(self, TooMany, ("limit", 400), recipe_rise, LONG_ROW, 0, 11, recipe)
        self.assertIs(is_apart(LONG_ROW, 0, 11, recipe, recipe), False)
        part = Net(12, LONG_ROW.wires[:10])
        self.assertEqual(recipe_rise(part, 0, 10, recipe_or_bridge(part, 0, 10)[1]), seen(part, 0, 10))

    def test_too_many_counts_for_the_whole_rise_alone(self):
        net = Net(12, LONG_ROW.wires + ((0, 11, ("level", 100)),))
        recipe = recipe_or_bridge(net, 0, 11)[1]
        self.assertEqual(recipe_rise(net, 0, 11, recipe), ("rise", ("level", 100)))
        last = ("plumb", 10 ** 12)
        row = Net(12, LONG_ROW.wires[:10] + ((10, 11, last),))
        self.assertEqual(recipe_rise(row, 0, 11, recipe_or_bridge(row, 0, 11)[1])[0], "rise")


class RefusalTests(unittest.TestCase):
    def test_refusals(self):
        bad_knot = (NO_INTEGERS + [-1, 4, 10], InvalidNumber, "given")
        for function in (between, recipe_or_bridge, joined):
            assert_refusals(self, function, [CHAIN, 0, 2], {0: BAD_NET, 1: bad_knot, 2: bad_knot})
        for function in (is_recipe, is_bridge):
            assert_refusals(self, function, [CHAIN, 0, 2, None], {0: BAD_NET, 1: bad_knot, 2: bad_knot})
        no_recipes = JUNK + [0, 1, ("wire", 0, 1), ("row", ("wire", 0, True), CHAIN_RECIPE[2]), list(CHAIN_RECIPE), ("none",), CHAIN_RECIPE[2]]
        bad_recipe = (no_recipes, InvalidOperation, None)
        assert_refusals(self, recipe_rise, [CHAIN, 0, 2, CHAIN_RECIPE], {0: BAD_NET, 1: bad_knot, 2: bad_knot, 3: bad_recipe})
        assert_refusals(self, is_apart, [CHAIN, 0, 2, CHAIN_RECIPE, None], {0: BAD_NET, 1: bad_knot, 2: bad_knot, 3: bad_recipe})

    def test_one_knot_twice(self):
        for function, more in ((between, ()), (recipe_or_bridge, ()), (joined, ()), (is_recipe, (None,)), (is_bridge, (None,)),
                               (recipe_rise, (CHAIN_RECIPE,)), (is_apart, (CHAIN_RECIPE, None))):
            assert_raises(self, InvalidOperation, None, function, CHAIN, 1, 1, *more)
            assert_raises(self, InvalidNumber, ("given", True), function, CHAIN, 1, True, *more)
        assert_raises(self, InvalidOperation, None, between, Net(1, ()), 0, 0)
        assert_raises(self, InvalidOperation, None, recipe_rise, LONG_ROW, 0, 11, STEPS)
        assert_raises(self, InvalidOperation, None, recipe_rise, Net(2, ((0, 1, stair("flat", 3)),)), 0, 1, ("wire", 0, -1))


class NotTrueTests(unittest.TestCase):
    """[16.6]: none of these is true."""

    def test_one_recipe_at_most(self):
        for recipe in (CHAIN_RECIPE, (CHAIN_RECIPE[0], CHAIN_RECIPE[1], ("side", *CHAIN_RECIPE[2][:0:-1]))):
            self.assertIs(is_recipe(CHAIN, 0, 2, recipe), True)

    def test_a_bridge_for_any_two_ends(self):
        self.assertEqual([recipe_or_bridge(FOUR, *ends)[0] for ends in ((0, 3), (0, 1))], ["bridge", "recipe"])

    def test_a_knot_of_two_wires_is_joined(self):
        """The ends themselves are not."""
        self.assertEqual([sum(knot in wire[:2] for wire in FOUR.wires) for knot in (0, 3)], [2, 2])
        self.assertEqual(joined(FOUR, 0, 3), (4, 5))


if __name__ == "__main__":
    unittest.main()
