"""Heights whose tensions are of ranges, or a loop that bars them; how far heights can be apart."""

from risenets.base.arcs import least_lengths, turned_arcs
from risenets.base.checks import is_row, is_tuple_of, is_whole
from risenets.base.ranges import holds, is_range
from risenets.errors import InvalidOperation, Refused
from risenets.fit.falls import falls, fitted
from risenets.net.nets import check_knot, check_net, drops_by, ends_of, is_cut, is_loop, is_way, rows_of
from risenets.rise.rises import span_of


def spans_of(net):
    """The ranges of the tensions of all rises."""
    check_net(net)
    return tension_spans(net)


def heights_or_loop(net, ranges):
    """Heights that fit, or a loop that bars them."""
    check_net(net)
    check_ranges(net, ranges)
    word, told = fitted(net.knots, ends_of(net), ranges)
    return (word, tuple(told))


def do_fit(net, ranges, value):
    """Whether the value is heights that fit."""
    check_net(net)
    check_ranges(net, ranges)
    if not is_row(value, net.knots):
        return False
    return all([holds(span, tension) for span, tension in zip(ranges, drops_by(net, value))])


def is_barring(net, ranges, value):
    """Whether the value is a loop that bars heights."""
    check_net(net)
    check_ranges(net, ranges)
    return does_bar(net, ranges, value)


def greatest_row(net, ranges, ground):
    """The greatest heights of all knots with 0 at the ground, None for each one without end."""
    check_net(net)
    check_ranges(net, ranges)
    check_knot(net, ground)
    refuse_barred(net, ranges)
    lengths, _ = least_lengths(lengths_of_steps(net, ranges), [ground])
    return tuple([lengths.get(knot, None) for knot in range(net.knots)])


def least_row(net, ranges, ground):
    """The least heights of all knots with 0 at the ground, None for each one without end."""
    check_net(net)
    check_ranges(net, ranges)
    check_knot(net, ground)
    refuse_barred(net, ranges)
    lengths, _ = least_lengths(turned_arcs(lengths_of_steps(net, ranges)), [ground])
    return tuple([-lengths[knot] if knot in lengths else None for knot in range(net.knots)])


def most_apart(net, ranges, start, goal):
    """How far the goal can be above the start, with a way, or with knots that can be raised without end."""
    check_ends(net, ranges, start, goal)
    refuse_barred(net, ranges)
    lengths, ways = least_lengths(lengths_of_steps(net, ranges), [start])
    if goal in lengths:
        return ("most", lengths[goal], ways[goal])
    return ("endless", tuple([knot for knot in range(net.knots) if knot not in lengths]))


def is_most_apart(net, ranges, start, goal, value):
    """Whether the value is what most_apart can tell."""
    check_ends(net, ranges, start, goal)
    refuse_barred(net, ranges)
    if is_tuple_of(value, 2):
        return value[0] == "endless" and can_be_raised(net, ranges, start, goal, value[1])
    if not is_tuple_of(value, 3) or value[0] != "most":
        return False
    _, number, way = value
    if not is_whole(number) or not is_way(net, start, goal, way) or length_of(ranges, way) != number:
        return False
    lengths, _ = least_lengths(lengths_of_steps(net, ranges), [start])
    return lengths[goal] == number


def check_ranges(net, value):
    """Refuse what is no range for each wire."""
    if not is_tuple_of(value, len(net)) or not all([is_range(span) for span in value]):
        raise InvalidOperation("not a range for each wire")


def check_ends(net, ranges, start, goal):
    """Refuse wrong arguments about two knots."""
    check_net(net)
    check_ranges(net, ranges)
    check_knot(net, start)
    check_knot(net, goal)


def refuse_barred(net, ranges):
    """Refuse ranges that no heights fit."""
    word, told = fitted(net.knots, ends_of(net), ranges)
    if word == "loop":
        raise Refused((word, told))


def tension_spans(net):
    """The ranges of the tensions of all rises."""
    return tuple([span_of(row, "steep") for row in rows_of(net)])


def lengths_of_steps(net, ranges):
    """The arcs of all steps that have a length."""
    return turned_arcs(falls(net.knots, ends_of(net), ranges, [0] * len(net)))


def length_of(ranges, steps):
    """The length of a way or a loop, None if it has none."""
    total = 0
    for wire, way in steps:
        low, high = ranges[wire]
        bound = low if way == 1 else high
        if bound is None:
            return None
        total -= way * bound
    return total


def does_bar(net, ranges, value):
    """Whether the value is a loop that bars heights."""
    if not is_loop(net, value):
        return False
    length = length_of(ranges, value)
    return length is not None and length < 0


def can_be_raised(net, ranges, start, goal, value):
    """Whether the value is knots with the goal, and without the start, that can be raised without end."""
    if not is_cut(net, value) or goal not in value or start in value:
        return False
    return is_free_lot(net, ranges, value)


def is_free_lot(net, ranges, cut):
    """Whether nothing bars the tensions of what leaves from growing, and of what enters from falling."""
    for (tail, head, _), (low, high) in zip(net.wires, ranges):
        if tail in cut and head not in cut and high is not None:
            return False
        if tail not in cut and head in cut and low is not None:
            return False
    return True
