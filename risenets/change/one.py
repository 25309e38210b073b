"""Changes of one wire: what it can have, how far its rise can be moved, what keeps a state."""

from risenets.base.checks import check_number, is_tuple_of
from risenets.base.ranges import common, opposites, sums
from risenets.ends.follow import ranges_seen
from risenets.ends.seen import rise_or_fight
from risenets.errors import InvalidOperation
from risenets.fit.currents import no_feeds
from risenets.net.nets import Net, check_net, check_wire, drops_by, ends_of, rows_of
from risenets.rise.joins import has_point, moved_form
from risenets.rise.rises import check_rise, row_of, span_of
from risenets.state.box import current_span_of, state_of, tension_span_of
from risenets.state.search import settled
from risenets.state.states import check_state, exchanged


def with_rise(net, wire, rise):
    """The net with this rise for the wire."""
    check_net(net)
    check_wire(net, wire)
    check_rise(rise)
    return net_with_rise(net, wire, rise)


def rest_of(net, wire):
    """What the net without the wire is seen as from the wire's tail and head."""
    check_net(net)
    check_wire(net, wire)
    tail, head, _ = net.wires[wire]
    return rise_or_fight(net_without(net, wire), tail, head)


def points_of(net, wire):
    """The ranges of the currents and of the tensions that the wire has in states."""
    check_net(net)
    check_wire(net, wire)
    state = state_of(net)
    return (current_span_of(net, state, wire), tension_span_of(net, state, wire))


def has_state_with(net, wire, rise):
    """Whether the net with this rise for the wire has a state."""
    check_net(net)
    check_wire(net, wire)
    check_rise(rise)
    rows = exchanged(rows_of(net), wire, row_of(rise))
    return settled(net.knots, ends_of(net), rows, no_feeds(net))[0] == "state"


def moved_net(net, wire, right, up):
    """The net with the wire's rise moved."""
    check_net(net)
    check_wire(net, wire)
    check_number(right)
    check_number(up)
    return net_with_rise(net, wire, moved_form(net.wires[wire][2], right, up))


def range_right(net, wire):
    """The least and the most move to the right with which there is a state, () if there is none."""
    check_net(net)
    check_wire(net, wire)
    told = ranges_of_both(net, wire)
    if told is None:
        return ()
    (currents, tensions), (put_ins, pushes) = told
    return () if common(tensions, pushes) is None else opposites(sums(currents, put_ins))


def range_up(net, wire):
    """The least and the most move upwards with which there is a state, () if there is none."""
    check_net(net)
    check_wire(net, wire)
    told = ranges_of_both(net, wire)
    if told is None:
        return ()
    (currents, tensions), (put_ins, pushes) = told
    return () if common(currents, opposites(put_ins)) is None else sums(pushes, opposites(tensions))


def does_keep(net, wire, rise, state):
    """Whether the state is one with this rise for the wire, too."""
    check_net(net)
    check_wire(net, wire)
    check_rise(rise)
    check_state(net, state)
    currents, heights = state
    return has_point(rise, currents[wire], drops_by(net, heights)[wire])


def fixed(net, state, words):
    """The net with batteries of the tensions, or sources of the currents, of a state in the place of rises."""
    check_net(net)
    check_state(net, state)
    check_words(net, words)
    currents, tensions = state[0], drops_by(net, state[1])
    wires = []
    for wire, (tail, head, rise) in enumerate(net.wires):
        chosen = {"level": ("level", tensions[wire]), "plumb": ("plumb", currents[wire]), "as it is": rise}
        wires.append((tail, head, chosen[words[wire]]))
    return Net(net.knots, tuple(wires))


def check_words(net, value):
    """Refuse what is no word for each wire."""
    if not is_tuple_of(value, len(net)) or not all([word in ("level", "plumb", "as it is") for word in value]):
        raise InvalidOperation("not a word for each wire")


def net_with_rise(net, wire, rise):
    """The net with this rise for the wire, refused if there can be no such net."""
    tail, head, _ = net.wires[wire]
    return Net(net.knots, exchanged(net.wires, wire, (tail, head, rise)))


def net_without(net, wire):
    """The net without the wire."""
    return Net(net.knots, net.wires[:wire] + net.wires[wire + 1:])


def ranges_of_both(net, wire):
    """The ranges of currents and tensions of the wire alone, and of its rest, None if this is seen as a fight."""
    tail, head, rise = net.wires[wire]
    rest = ranges_seen(net_without(net, wire), tail, head)
    if rest is None:
        return None
    row = row_of(rise)
    return ((span_of(row, "flat"), span_of(row, "steep")), rest)
