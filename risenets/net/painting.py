"""Wires of three kinds: a loop that has a wire, or a cut that it leaves."""

from risenets.base.checks import is_row, is_tuple_of
from risenets.errors import InvalidKinds, InvalidOperation
from risenets.net.nets import (
    check_knot, check_net, check_wire, currents_by, cut_wires, drops_by, heights_by, is_cut, is_loop,
    shortest_ways, surplus_by)


def is_kinds(net, value):
    """Whether the value is a kind for each wire."""
    check_net(net)
    if not is_tuple_of(value, len(net)):
        return False
    return all([kind in ("free", "one", "barred") for kind in value])


def is_loop_of(net, kinds, value):
    """Whether the value is a loop that goes with the kinds."""
    check_net(net)
    check_kinds(net, kinds)
    return is_loop(net, value) and all([step in steps_of(kinds) for step in value])


def is_cut_of(net, kinds, value):
    """Whether the value is a cut that goes with the kinds."""
    check_net(net)
    check_kinds(net, kinds)
    if not is_cut(net, value):
        return False
    leaving, entering = cut_wires(net, value)
    return (all([kinds[wire] != "free" for wire in leaving])
            and all([kinds[wire] == "barred" for wire in entering]))


def loop_or_cut(net, kinds, wire):
    """A loop that goes with the kinds and has the wire, or a cut that it leaves."""
    check_paint(net, kinds, wire)
    return answer_by(net, kinds, wire)


def is_loop_or_cut(net, kinds, wire, value):
    """Whether the value is what loop_or_cut can tell."""
    check_paint(net, kinds, wire)
    if not is_tuple_of(value, 2):
        return False
    word, told = value
    if word == "loop":
        return is_loop_of(net, kinds, told) and (wire, 1) in told
    return word == "cut" and is_cut_of(net, kinds, told) and wire in cut_wires(net, told)[0]


def reached(net, kinds, knot):
    """The knots that are reached from a knot."""
    check_net(net)
    check_kinds(net, kinds)
    check_knot(net, knot)
    return tuple(sorted(list(shortest_ways(net, knot, steps_of(kinds)))))


def parted(net, kinds):
    """The wires of the kind "one" that are in loops, and those that are in cuts."""
    check_net(net)
    check_kinds(net, kinds)
    words = {wire: answer_by(net, kinds, wire)[0] for wire in wires_of(kinds, "one")}
    return (tuple([wire for wire in words if words[wire] == "loop"]),
            tuple([wire for wire in words if words[wire] == "cut"]))


def witness(net, kinds):
    """Currents and heights that show at once which wires are in loops, and which in cuts."""
    check_net(net)
    check_kinds(net, kinds)
    currents, heights = [0] * len(net), [0] * net.knots
    for wire in wires_of(kinds, "one"):
        word, told = answer_by(net, kinds, wire)
        if word == "loop":
            currents = added(currents, currents_by(net, told))
        else:
            heights = added(heights, heights_by(net, told))
    return (tuple(currents), tuple(heights))


def is_witness(net, kinds, value):
    """Whether the value is what witness can tell."""
    check_net(net)
    check_kinds(net, kinds)
    if not is_tuple_of(value, 2):
        return False
    currents, heights = value
    if not is_row(currents, len(net)) or not is_row(heights, net.knots):
        return False
    if any([more != 0 for more in surplus_by(net, currents)]):
        return False
    tensions = drops_by(net, heights)
    return all([is_shown(kinds[k], currents[k], tensions[k]) for k in range(len(net))])


def check_kinds(net, value):
    """Refuse what is no kind for each wire."""
    if not is_kinds(net, value):
        raise InvalidKinds("not a kind for each wire")


def check_paint(net, kinds, wire):
    """Refuse what is asked for no wire of the kind "one"."""
    check_net(net)
    check_kinds(net, kinds)
    check_wire(net, wire)
    if kinds[wire] != "one":
        raise InvalidOperation("not a wire of the kind one")


def wires_of(kinds, kind):
    """The wires of the kind."""
    return [wire for wire in range(len(kinds)) if kinds[wire] == kind]


def steps_of(kinds):
    """The steps that a loop can go."""
    steps = [(wire, 1) for wire in range(len(kinds)) if kinds[wire] != "barred"]
    return steps + [(wire, -1) for wire in wires_of(kinds, "free")]


def answer_by(net, kinds, wire):
    """A loop or a cut for a wire of the kind "one"."""
    tail, head, _ = net.wires[wire]
    ways = shortest_ways(net, head, steps_of(kinds))
    if tail in ways:
        return ("loop", ((wire, 1), *ways[tail]))
    return ("cut", tuple([knot for knot in range(net.knots) if knot not in ways]))


def added(row, other):
    """The sums, item by item."""
    return [row[k] + other[k] for k in range(len(row))]


def is_shown(kind, current, tension):
    """Whether a wire of the kind can have these in a witness."""
    if kind == "barred":
        return current == 0
    if kind == "free":
        return tension == 0
    return (current > 0 and tension == 0) or (current == 0 and tension > 0)
