"""States of nets, or fights."""

from risenets.base.checks import is_row, is_short_row, is_tuple_of
from risenets.errors import InvalidOperation, InvalidState
from risenets.fit.currents import does_cut_fight, no_feeds
from risenets.fit.heights import does_bar, tension_spans
from risenets.net.nets import (
    Net, check_currents, check_heights, check_net, check_wire, drops_by, ends_of, rows_of, surplus_by)
from risenets.rise.joins import has_point, turned_form
from risenets.state.search import settled


def state_or_fight(net):
    """A state, or a fight."""
    check_net(net)
    return settled_net(net)


def is_state(net, value):
    """Whether the value is a state."""
    check_net(net)
    return does_rest(net, value, no_feeds(net))


def is_fight(net, value):
    """Whether the value is a fight of the net."""
    check_net(net)
    return does_fight(net, value)


def is_answer(net, value):
    """Whether the value is what state_or_fight can tell."""
    check_net(net)
    if is_tuple_of(value, 3):
        return value[0] == "state" and does_rest(net, value[1:], no_feeds(net))
    return does_fight(net, value)


def broken_wires(net, currents, heights):
    """The wires whose pair is not on their rise."""
    check_net(net)
    check_currents(net, currents)
    check_heights(net, heights)
    return tuple(wires_off(net, currents, heights))


def surplus_knots(net, currents):
    """How much more comes than goes at the knots at which the currents do not add up."""
    check_net(net)
    check_currents(net, currents)
    return {knot: more for knot, more in enumerate(surplus_by(net, currents)) if more != 0}


def renumbered(net, order):
    """The net with the knots in another sequence."""
    check_net(net)
    if not is_short_row(order, net.knots) or sorted(order) != list(range(net.knots)):
        raise InvalidOperation("not all knots, each one once")
    return Net(net.knots, tuple([(order.index(tail), order.index(head), rise) for tail, head, rise in net.wires]))


def other_way(net, wire):
    """The net with the ends of a wire exchanged, and its rise turned."""
    check_net(net)
    check_wire(net, wire)
    tail, head, rise = net.wires[wire]
    return Net(net.knots, exchanged(net.wires, wire, (head, tail, turned_form(rise))))


def check_state(net, value):
    """Refuse what is no state of the net."""
    if not is_state(net, value):
        raise InvalidState("not a state of the net")


# From here on currents, heights and feeds may be of any length.


def settled_net(net):
    """A state, or a fight."""
    return settled(net.knots, ends_of(net), rows_of(net), no_feeds(net))


def does_rest(net, value, feeds):
    """Whether the value is a state with these feeds."""
    if not is_tuple_of(value, 2) or not is_row(value[0], len(net)) or not is_row(value[1], net.knots):
        return False
    currents, heights = value
    if any([more + feed != 0 for more, feed in zip(surplus_by(net, currents), feeds)]):
        return False
    return not wires_off(net, currents, heights)


def does_fight(net, value):
    """Whether the value is a fight of the net."""
    if not is_tuple_of(value, 2):
        return False
    word, told = value
    if word == "cut":
        return does_cut_fight(net, no_feeds(net), told)
    return word == "loop" and does_bar(net, tension_spans(net), told)


def wires_off(net, currents, heights):
    """The wires whose pair is not on their rise."""
    tensions = drops_by(net, heights)
    return [wire for wire, (_, _, rise) in enumerate(net.wires) if not has_point(rise, currents[wire], tensions[wire])]


def exchanged(items, at, item):
    """The items with another one at this index."""
    return (*items[:at], item, *items[at + 1:])
