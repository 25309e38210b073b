"""What several tests share: odd values, checks of refusals and of judges, small rises."""

import itertools

from risenets.errors import InvalidRise, RiseError
from risenets.net.nets import Net, drops, surplus
from risenets.rise.rises import currents_of, is_on, is_rise, tensions_of
from risenets.talk.bench import Bench
from risenets.time.tanks import Tanks

SIXTY = 10 ** 60 - 1
LONG = 10 ** 60

DIODE, BATTERY, FUSE = ("steep", ((0, 0),)), ("level", 5), ("steep", ((-2, 0), (2, 0)))
STEPS = ("steep", ((0, 0), (2, 0), (2, 3), (4, 3)))
STAIRS = ("flat", ((0, -1), (0, 1), (1, 1), (1, 2), (2, 2), (2, 3)))

# One of each kind of which wrong arguments are built, none of them an integer or a tuple.
ODD = [
    True, False, None, "", "0", "level", "flat", "a" * 4000, "two\nrows",
    [], [0], [0, 1], {}, {0: 1}, {"a": [1]}, [[[[[[[[1]]]]]]]], Tanks(Net(2, ()), ((1, DIODE, 0),)), Bench(),
    Net(1, ()), Net(2, ((0, 1, DIODE),)), RiseError("told"), InvalidRise("told"),
]
ODD_TUPLES = [
    (), (True,), (None,), ("a", "b"), ([],), ((((((((0,),),),),),),),), (Net(1, ()),),
    (0, True), (True, 0), (None, True), (False, None), ([0], [1]), ("level",), ("level", True),
    ("flat", ()), ("flat", []), ("met", 0), ("shared",), ("loop",), ("cut",), (1, 2, 3, 4, 5, 6, 7),
    ("heights", None), ("heights", (True, False)), ("loop", ((0, 1), [1, 1])), ("cut", (True,)),
    ("loop", ()), ("cut", ()), ((), ()), ((0,), (0, True)), (None, None, None),
]
NO_INTEGERS = ODD + ODD_TUPLES + [(0, 0), (1, 2), LONG, -LONG, 10 ** 99, -10 ** 99]
JUNK = ODD + ODD_TUPLES
NO_NETS = ODD[:-4] + ODD_TUPLES + [0, 1, LONG, RiseError("told")]
NO_RISES = NO_INTEGERS + [
    0, 1, ("level",), ("level", 0, 0), ("level", 10 ** 18 + 1), ("level", -10 ** 18 - 1), ("level", True),
    ("level", None), ("level", (0,)), ("plumb", 10 ** 18 + 1), ("plumb", "0"), ("Level", 0), (0, "level"),
    ["level", 0], ("flat", [(0, 0)]), ("flat", ([0, 0],)), ("flat", ((0, 0, 0),)), ("flat", ((0, True),)),
    ("flat", ((0, 0), (1, 0))), ("flat", ((0, 0), (0, 0))), ("flat", ((0, 0), (0, -1))),
    ("flat", ((0, 0), (1, 1))), ("flat", ((0, 0), (0, 1), (0, 2))), ("flat", ((0, 0), (0, 1), (-1, 1))),
    ("steep", ((0, 0), (0, 1))), ("steep", ((0, 0), (-1, 0))), ("steep", ((0, 10 ** 18 + 1),)),
    ("steep", ((-10 ** 18 - 1, 0),)), ("steep", ((0, 0), (10 ** 18 + 1, 0))), ("plumb", ((0, 0),)), ("flat", 0),
    ("up", ((0, 0),)), (None, ((0, 0),)), ("Steep", ((0, 0),)), (True, ((0, 0),)), ("up", 0), ("", 0),
]


def same(one, other):
    """Whether both are equal, and of the same kinds: True is not 1."""
    return one == other and repr(one) == repr(other)


def assert_raises(test, error, kept, function, *arguments):
    """The call raises just this error, with this value in its attribute (name, value), if any."""
    shown = f"{function.__name__}{repr(arguments)[:300]}"
    try:
        told = function(*arguments)
    except error as caught:
        test.assertEqual(caught.__class__, error, shown)
        if kept is not None:
            name, value = kept
            test.assertTrue(getattr(caught, name) is value or same(getattr(caught, name), value), shown)
    else:
        test.fail(f"{shown} told {told!r} instead of {error.__name__}")


def assert_refusals(test, function, right, wrongs):
    """Each wrong argument is refused, and of two wrong ones the first.

    `right` are right arguments; `wrongs` has for each checked parameter, by its index, a tuple
    (values, error, name), the name being that of the attribute that keeps the value, or None.
    """
    for at, (values, error, name) in wrongs.items():
        for value in values:
            arguments = list(right)
            arguments[at] = value
            assert_raises(test, error, name and (name, value), function, *arguments)
    for first, (values, error, name) in wrongs.items():
        for second in wrongs:
            if second > first:
                for value in values[:3] + values[-3:]:
                    for value_behind in wrongs[second][0][:3] + wrongs[second][0][-3:]:
                        arguments = list(right)
                        arguments[first], arguments[second] = value, value_behind
                        assert_raises(test, error, name and (name, value), function, *arguments)


def assert_judges(test, function, before, right, wrong):
    """The judge takes the right values and no other ones, and raises nothing."""
    for value in right:
        test.assertIs(function(*before, value), True, f"{function.__name__} {before} {value!r}")
    for value in list(wrong) + JUNK + [0, 1, -1, LONG, -10 ** 99]:
        if any(same(value, taken) for taken in right):
            continue
        test.assertIs(function(*before, value), False, f"{function.__name__} {before} {value!r}")


def small_rises():
    """Rises of few corners with small integers, straight ones among them."""
    found = [("level", y) for y in (-2, 0, 1)] + [("plumb", x) for x in (-1, 0, 2)]
    for first in ("flat", "steep"):
        for start in ((0, 0), (-1, 1), (1, -2)):
            for lengths in ((), (1,), (2,), (1, 1), (2, 1), (1, 2, 1), (3, 1, 1, 2)):
                corners, kind = [start], first
                for length in lengths:
                    kind = "steep" if kind == "flat" else "flat"
                    x, y = corners[-1]
                    corners.append((x + length, y) if kind == "flat" else (x, y + length))
                found.append((first, tuple(corners)))
    return found


def walked(rise, far):
    """The points of integers on a rise, none farther than `far` from its corners, by walking along it."""
    word, told = rise
    if word == "level":
        return {(x, told) for x in range(-far, far + 1)}
    if word == "plumb":
        return {(told, y) for y in range(-far, far + 1)}
    (x, y), (u, v) = told[0], told[-1]
    points = {(x - k, y) if word == "flat" else (x, y - k) for k in range(far + 1)}
    for (x, y), (right, up) in zip(told, told[1:]):
        points |= {(a, b) for a in range(x, right + 1) for b in range(y, up + 1)}
    ends_flat = (word == "flat") == (len(told) % 2 == 0)
    return points | {(u + k, v) if ends_flat else (u, v + k) for k in range(far + 1)}


def stair(first, count, start=(0, 0), width=1):
    """A rise with so many corners."""
    corners, kind = [start], first
    while len(corners) < count:
        kind = "steep" if kind == "flat" else "flat"
        x, y = corners[-1]
        corners.append((x + width, y) if kind == "flat" else (x, y + width))
    return (first, tuple(corners))


def all_loops(net):
    """Each loop of the net, from each of its knots and both ways, by trying all rows of steps."""
    found = []

    def go_on(start, knot, steps, knots):
        for wire, (tail, head, _) in enumerate(net.wires):
            for way, begin, end in ((1, tail, head), (-1, head, tail)):
                if begin != knot or any(wire == gone for gone, _ in steps):
                    continue
                if end == start:
                    found.append(tuple(steps + [(wire, way)]))
                elif end not in knots:
                    go_on(start, end, steps + [(wire, way)], knots + [end])

    for knot in range(net.knots):
        go_on(knot, knot, [], [knot])
    return found


def all_cuts(net):
    """Each cut of the net."""
    return [cut for count in range(1, net.knots + 1) for cut in itertools.combinations(range(net.knots), count)]


def plain_net(knots, ends, rise=DIODE):
    """A net with wires between these ends, all with one rise."""
    return Net(knots, tuple((tail, head, rise) for tail, head in ends))


NETS = [
    plain_net(1, ()), plain_net(3, ()), plain_net(2, ((0, 1),)), plain_net(2, ((0, 1), (0, 1))),
    plain_net(2, ((0, 1), (1, 0), (0, 1))), plain_net(3, ((0, 1), (1, 2), (2, 0))), plain_net(3, ((0, 1), (1, 2))),
    plain_net(4, ((0, 1), (1, 2), (2, 0), (2, 3))), plain_net(4, ((2, 1), (0, 1), (2, 0), (3, 2), (0, 3))),
    plain_net(5, ((0, 1), (1, 0), (3, 2), (2, 3), (3, 2))),
    plain_net(4, ((0, 1), (0, 2), (0, 3), (1, 2), (3, 1), (2, 3))),
    plain_net(6, ((5, 4), (4, 3), (3, 5), (2, 0))), plain_net(4, ((0, 1), (1, 2), (2, 3), (3, 1))),
    plain_net(5, ((1, 0), (1, 2), (3, 2), (3, 4), (2, 4))),
    plain_net(6, ((0, 1), (2, 1), (2, 3), (4, 3), (4, 5), (5, 3))),
]


def spread(count, most, salt):
    """Integers from -most to most, in no plain sequence, the same ones each time."""
    found, state = [], 12345 + 1000003 * salt
    for _ in range(count):
        state = (state * 1103515245 + 12345) % 2 ** 31
        found.append((state >> 8) % (2 * most + 1) - most)
    return tuple(found)


# What follows is told by the words of the document alone, without what the package searches by.

NEAR = 10 ** 12


def dressed(shape, salt):
    """A net with these ends and with small rises, others for each salt."""
    rises = small_rises()
    chosen = spread(len(shape), len(rises), salt)
    return Net(shape.knots, tuple((tail, head, rises[k % len(rises)]) for (tail, head, _), k in zip(shape.wires, chosen)))


def dressed_nets(shapes, salts):
    """All of these shapes with rises, so many times each."""
    return [dressed(shape, 100 * at + salt) for at, shape in enumerate(shapes) for salt in range(salts)]


def cut_sum(net, cut, spans):
    """The least that leaves the cut less the most that enters it, None if one of these has no end."""
    found = []
    for (tail, head, _), (least, most) in zip(net.wires, spans):
        if tail in cut and head not in cut:
            found.append(least)
        if tail not in cut and head in cut:
            found.append(None if most is None else -most)
    return None if None in found else sum(found)


def loop_sum(loop, spans):
    """The least numbers of what is gone by 1 less the most ones of what is gone by -1, None if one has no end."""
    found = [spans[wire][0] if way == 1 else spans[wire][1] for wire, way in loop]
    return None if None in found else sum(way * number for number, (_, way) in zip(found, loop))


def fighting_cuts(net, feeds=None):
    """All cuts that fight the feeds."""
    feeds = feeds or (0,) * net.knots
    spans = [currents_of(rise) for _, _, rise in net.wires]
    sums = {cut: cut_sum(net, cut, spans) for cut in all_cuts(net)}
    return [cut for cut, least in sums.items() if least is not None and least > sum(feeds[knot] for knot in cut)]


def fighting_loops(net):
    """All loops that fight."""
    return barring_loops(net, [tensions_of(rise) for _, _, rise in net.wires])


def barring_loops(net, ranges):
    """All loops that bar heights with tensions of the ranges."""
    sums = {loop: loop_sum(loop, ranges) for loop in all_loops(net)}
    return [loop for loop, least in sums.items() if least is not None and least > 0]


def all_fights(net):
    """All fights of the net."""
    return [("cut", cut) for cut in fighting_cuts(net)] + [("loop", loop) for loop in fighting_loops(net)]


def rests(net, value, feeds=None):
    """Whether the value, a pair of rows, is a state, with these feeds."""
    currents, heights = value
    feeds = feeds or (0,) * net.knots
    more = [n + feed for n, feed in zip(surplus(net, currents), feeds)]
    pairs = zip(net.wires, currents, drops(net, heights))
    return not any(more) and all(is_on(rise, x, y) for (_, _, rise), x, y in pairs)


def all_ways(net, start, goal):
    """All ways from the one knot to the other one, by trying all rows of steps."""
    found = []

    def go_on(knot, steps, knots):
        if knot == goal:
            found.append(tuple(steps))
            return
        for wire, (tail, head, _) in enumerate(net.wires):
            for way, begin, end in ((1, tail, head), (-1, head, tail)):
                if begin == knot and end not in knots:
                    go_on(end, steps + [(wire, way)], knots + [end])

    go_on(start, [], [start])
    return found


def is_inside(span, number):
    """Whether the number is of the span."""
    return (span[0] is None or span[0] <= number) and (span[1] is None or number <= span[1])


def windows(count, most):
    """All rows of so many integers of a small window."""
    return itertools.product(range(-most, most + 1), repeat=count)


def tall(first, count, salt, most=NEAR):
    """A rise with so many corners that reaches from -most to most."""
    def ascending(many, salt):
        """So many unlike numbers, the last one being the greatest that is let."""
        found = sorted(set(spread(4 * many + 4, 10 ** 6 - 1, salt)))[::3][:max(many - 1, 0)]
        return [number * (most // 10 ** 6) for number in found] + [most]

    corners, kind = [(-most, -most)], first
    numbers = {"flat": ascending((count - (first == "flat")) // 2, salt), "steep": ascending(count // 2 + 1, salt + 5000)}
    while len(corners) < count:
        kind = "steep" if kind == "flat" else "flat"
        number = numbers[kind].pop(0)
        corners.append((number, corners[-1][1]) if kind == "flat" else (corners[-1][0], number))
    return (first, tuple(corners))


def great_net(firsts, salt, corners=40):
    """A net of 12 knots and 24 wires, its rises being as great as they can be."""
    ends = [(k, (k + 1) % 12) for k in range(12)] + [((k + 5 * salt) % 12, (k + 5 * salt + 2 + k % 3) % 12)
                                                    for k in range(12)]
    return Net(12, tuple((tail, head, tall(firsts[k % len(firsts)], corners, salt * 24 + k))
                         for k, (tail, head) in enumerate(ends)))


def digits(value):
    """The greatest number of digits of an integer in the value."""
    if isinstance(value, int):
        return len(str(abs(value)))
    return max([digits(item) for item in value], default=0) if isinstance(value, tuple) else 0
