"""All states of a net: currents of some ranges with heights of some ranges."""

from risenets.base.arcs import least_lengths, turned_arcs
from risenets.base.checks import is_tuple_of, is_whole
from risenets.errors import InvalidNumber, InvalidOperation, Refused
from risenets.fit.currents import no_feeds
from risenets.fit.falls import fall_span, falls, lowered
from risenets.fit.flows import furthest_led
from risenets.fit.heights import is_free_lot
from risenets.net.nets import (
    check_knot, check_net, check_wire, cut_wires, drops_by, ends_of, is_cut, is_loop, is_way, rows_of)
from risenets.state.search import ranges_at, spans_at
from risenets.state.states import check_state, does_rest, settled_net


def mixed(net, state, other):
    """The currents of the one state with the heights of the other one."""
    check_net(net)
    check_state(net, state)
    check_state(net, other)
    return (state[0], other[1])


def ranges(net, state):
    """For each wire the range of currents at its tension, and that of tensions at its current."""
    check_net(net)
    check_state(net, state)
    spans, tensions = state_spans(net, state), state_ranges(net, state)
    return tuple([(*span, *told) for span, told in zip(spans, tensions)])


def furthest_current(net, wire, way):
    """The furthest current of a wire in all states, with what shows it, or how it goes on without end."""
    check_going(net, wire, way)
    state = state_of(net)
    word, currents, told = furthest_of(net, state, wire, way)
    if word == "endless":
        return (word, state, told)
    return ("current", currents[wire], (currents, state[1]), () if told is None else told)


def is_furthest_current(net, wire, way, value):
    """Whether the value is what furthest_current can tell."""
    check_going(net, wire, way)
    state_of(net)
    if is_tuple_of(value, 3):
        word, state, steps = value
        return word == "endless" and is_rest(net, state) and goes_round(net, state, (wire, way), steps)
    return is_current_paper(net, wire, way, value)


def furthest_height(net, knot, other):
    """The most that a knot can be above another one, with a way that shows it, or how it grows without end."""
    check_pair(net, knot, other)
    currents, heights = state_of(net)
    tensions = state_ranges(net, (currents, heights))
    found, reached, ways = lowered(net.knots, ends_of(net), tensions, heights, [knot], [other])
    if found is None:
        return ("endless", (currents, heights), tuple(reached))
    return ("height", found[knot] - found[other], (currents, tuple(found)), ways[other])


def is_furthest_height(net, knot, other, value):
    """Whether the value is what furthest_height can tell."""
    check_pair(net, knot, other)
    state_of(net)
    if is_tuple_of(value, 3):
        word, state, knots = value
        return word == "endless" and is_rest(net, state) and can_part(net, state, knot, other, knots)
    return is_height_paper(net, knot, other, value)


def least_heights(net, ground):
    """The least heights of all states with 0 at the ground, None if some knot has none."""
    return row_by_falls(net, ground, False)


def most_heights(net, ground):
    """The greatest heights of all states with 0 at the ground, None if some knot has none."""
    return row_by_falls(net, ground, True)


def is_only(net):
    """Whether all states have equal currents, and heights that are alike."""
    check_net(net)
    state = state_of(net)
    for wire in range(len(net)):
        if current_span_of(net, state, wire) != (state[0][wire], state[0][wire]):
            return False
        low, high = tension_span_of(net, state, wire)
        if low is None or low != high:
            return False
    return True


def check_going(net, wire, way):
    """Refuse wrong arguments about a wire gone one way."""
    check_net(net)
    check_wire(net, wire)
    if not is_whole(way) or way not in (1, -1):
        raise InvalidNumber(way)


def check_pair(net, knot, other):
    """Refuse what is no two unlike knots of the net."""
    check_net(net)
    check_knot(net, knot)
    check_knot(net, other)
    if knot == other:
        raise InvalidOperation("one knot twice")


def state_of(net):
    """A state of the net, refused if it has none."""
    told = settled_net(net)
    if told[0] != "state":
        raise Refused(told)
    return told[1:]


def is_rest(net, value):
    """Whether the value is a state."""
    return does_rest(net, value, no_feeds(net))


def side_of(way):
    """The index of the end of a range at which a way ends."""
    return 1 if way == 1 else 0


def state_spans(net, state):
    """The ranges of the currents along the tensions of a state."""
    return spans_at(ends_of(net), rows_of(net), state[1])


def state_ranges(net, state):
    """The ranges of the tensions at the currents of a state."""
    return ranges_at(rows_of(net), state[0])


def furthest_of(net, state, wire, way):
    """The furthest current of a wire in all states, as currents are led within their spans."""
    return furthest_led(net.knots, ends_of(net), state_spans(net, state), state[0], wire, way)


def current_span_of(net, state, wire):
    """The least and the most current of a wire in all states."""
    ends = [furthest_of(net, state, wire, way) for way in (-1, 1)]
    return tuple([currents[wire] if word == "most" else None for word, currents, _ in ends])


def tension_span_of(net, state, wire):
    """The least and the most tension of a wire in all states."""
    tail, head, _ = net.wires[wire]
    return fall_span(net.knots, ends_of(net), state_ranges(net, state), tail, head)


def row_by_falls(net, ground, greatest):
    """The greatest, or the least, heights of all states with 0 at the ground, None if some knot has none."""
    check_net(net)
    check_knot(net, ground)
    row = row_of_state(net, state_of(net), ground, greatest)
    return None if None in row else row


def row_of_state(net, state, ground, greatest):
    """The greatest, or the least, heights with the currents of a state, 0 at the ground; None without end."""
    arcs = falls(net.knots, ends_of(net), state_ranges(net, state), [0] * len(net))
    lengths, _ = least_lengths(turned_arcs(arcs) if greatest else arcs, [ground])
    # By arcs as they are, a length is how far a height can fall.
    way = 1 if greatest else -1
    return tuple([way * lengths[knot] if knot in lengths else None for knot in range(net.knots)])


def is_current_paper(net, wire, way, value):
    """Whether the value is a furthest current with a state, and with what shows it."""
    if not is_tuple_of(value, 4) or value[0] != "current":
        return False
    _, number, state, knots = value
    if not is_whole(number) or not is_rest(net, state) or state[0][wire] != number:
        return False
    if knots == ():
        return state_spans(net, state)[wire][side_of(way)] == number
    return is_cut(net, knots) and does_hold(net, state, wire, way, knots)


def is_height_paper(net, knot, other, value):
    """Whether the value is a furthest height with a state, and with what shows it."""
    if not is_tuple_of(value, 4) or value[0] != "height":
        return False
    _, number, state, steps = value
    if not is_whole(number) or not is_rest(net, state) or state[1][knot] - state[1][other] != number:
        return False
    return is_way(net, knot, other, steps) and is_steepest(net, state, steps)


def goes_round(net, state, first, value):
    """Whether the value is a loop with this first step along which currents can go on without end."""
    if not is_loop(net, value) or value[0] != first:
        return False
    spans = state_spans(net, state)
    return all([spans[wire][side_of(way)] is None for wire, way in value])


def does_hold(net, state, wire, way, cut):
    """Whether all other wires of a cut that the wire leaves are at the ends that hold it."""
    leaving, entering = cut_wires(net, cut)
    if wire not in leaving:
        return False
    spans, currents = state_spans(net, state), state[0]
    for other in leaving:
        if other != wire and currents[other] != spans[other][side_of(-way)]:
            return False
    return all([currents[other] == spans[other][side_of(way)] for other in entering])


def can_part(net, state, knot, other, value):
    """Whether the value is a cut with the one knot alone that can be raised without end."""
    if not is_cut(net, value) or knot not in value or other in value:
        return False
    return is_free_lot(net, state_ranges(net, state), value)


def is_steepest(net, state, steps):
    """Whether each wire gone by 1 has its most tension, each one gone by -1 its least one."""
    tensions, told = drops_by(net, state[1]), state_ranges(net, state)
    return all([tensions[wire] == told[wire][side_of(way)] for wire, way in steps])
