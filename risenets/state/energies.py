"""Energies of nets: currents and heights that bound one another, and meet at states."""

from risenets.base.arcs import turned_steps
from risenets.base.checks import is_tuple_of, is_whole
from risenets.base.ranges import holds
from risenets.errors import Refused
from risenets.fit.currents import borne, current_spans, do_bear, does_cut_fight, no_feeds
from risenets.fit.falls import fitted
from risenets.fit.flows import least_through, led, some_within
from risenets.fit.heights import does_bar, length_of, tension_spans
from risenets.net.nets import (
    check_currents, check_heights, check_net, drops_by, ends_of, is_cut, is_loop, rows_of, surplus_by)
from risenets.rise.energies import anchor_by, area_by, gap_by
from risenets.rise.joins import transposed_form
from risenets.state.search import ranges_at, spans_at
from risenets.state.states import does_rest, settled_net


def energy_of(net, currents):
    """The sum of the areas under the rises, None if there is none."""
    check_net(net)
    check_currents(net, currents)
    return energy_by(net, currents)


def floor_of(net, heights):
    """What no energy is below, by the heights, None if there is none."""
    check_net(net)
    check_heights(net, heights)
    shares = [share_beside(rise, tension) for (_, _, rise), tension in zip(net.wires, drops_by(net, heights))]
    return None if None in shares else -sum(shares)


def gaps_of(net, currents, heights):
    """The gaps of all wires, None for each one that has none."""
    check_net(net)
    check_currents(net, currents)
    check_heights(net, heights)
    tensions = drops_by(net, heights)
    return tuple([gap_by(rise, currents[wire], tensions[wire]) for wire, (_, _, rise) in enumerate(net.wires)])


def least_energy(net):
    """The least energy with a state, a cut that fights, or right currents and a loop that fights."""
    check_net(net)
    word, currents = borne(net, no_feeds(net))
    if word == "cut":
        return (word, currents)
    told = settled_net(net)
    if told[0] == "loop":
        return ("falls", currents, told[1])
    return ("least", energy_by(net, told[1]), told[1:])


def is_least_energy(net, value):
    """Whether the value is what least_energy can tell."""
    check_net(net)
    if is_tuple_of(value, 2):
        return value[0] == "cut" and does_cut_fight(net, no_feeds(net), value[1])
    if not is_tuple_of(value, 3):
        return False
    word, first, second = value
    if word == "falls":
        return do_bear(net, no_feeds(net), first) and does_bar(net, tension_spans(net), second)
    if word != "least" or not is_whole(first) or not does_rest(net, second, no_feeds(net)):
        return False
    return first == energy_by(net, second[0])


def best_or_loop(net, currents):
    """Heights that make a state with right currents, or a loop round which one more lowers the energy."""
    check_right_currents(net, currents)
    told = ranges_at(rows_of(net), currents)
    word, found = fitted(net.knots, ends_of(net), told)
    if word == "heights":
        return ("best", tuple(found))
    return ("loop", turned_steps(found), -length_of(told, found))


def is_best_or_loop(net, currents, value):
    """Whether the value is what best_or_loop can tell."""
    check_right_currents(net, currents)
    if is_tuple_of(value, 2):
        return value[0] == "best" and does_rest(net, (currents, value[1]), no_feeds(net))
    if not is_tuple_of(value, 3) or value[0] != "loop":
        return False
    _, steps, less = value
    if not is_loop(net, steps) or not is_whole(less) or less < 1:
        return False
    return length_of(ranges_at(rows_of(net), currents), turned_steps(steps)) == -less


def best_or_knots(net, heights):
    """Currents that make a state with right heights, or knots that raise the floor when they are raised by 1."""
    check_right_heights(net, heights)
    spans = spans_at(ends_of(net), rows_of(net), heights)
    currents, starts, reached = led(net.knots, ends_of(net), spans, some_within(spans), no_feeds(net))
    if not starts:
        return ("best", tuple(currents))
    return ("knots", tuple(reached), gain_of(net, spans, reached))


def is_best_or_knots(net, heights, value):
    """Whether the value is what best_or_knots can tell."""
    check_right_heights(net, heights)
    if is_tuple_of(value, 2):
        return value[0] == "best" and does_rest(net, (value[1], heights), no_feeds(net))
    if not is_tuple_of(value, 3) or value[0] != "knots":
        return False
    _, knots, more = value
    if not is_cut(net, knots) or not is_whole(more) or more < 1:
        return False
    return gain_of(net, spans_at(ends_of(net), rows_of(net), heights), knots) == more


def check_right_currents(net, currents):
    """Refuse currents that do not add up, or are out of their ranges."""
    check_net(net)
    check_currents(net, currents)
    for knot, more in enumerate(surplus_by(net, currents)):
        if more != 0:
            raise Refused(("surplus", knot))
    refuse_out(current_spans(net), currents)


def check_right_heights(net, heights):
    """Refuse heights by which a tension is out of its range."""
    check_net(net)
    check_heights(net, heights)
    refuse_out(tension_spans(net), drops_by(net, heights))


def refuse_out(spans, numbers):
    """Refuse numbers for wires of which one is out of its span."""
    for wire, span in enumerate(spans):
        if not holds(span, numbers[wire]):
            raise Refused(("wire", wire))


# From here on currents and heights may be of any length.


def energy_by(net, currents):
    """The sum of the areas under the rises, None if there is none."""
    areas = [area_by(rise, currents[wire]) for wire, (_, _, rise) in enumerate(net.wires)]
    return None if None in areas else sum(areas)


def share_beside(rise, tension):
    """What a wire takes from the floor, None if it has no such tension."""
    area = area_by(transposed_form(rise), tension)
    x, y = anchor_by(rise)
    return None if area is None else area + x * y


def gain_of(net, spans, knots):
    """How much higher the floor is with the knots raised by 1, None if that is not right."""
    others = [knot for knot in range(net.knots) if knot not in knots]
    return least_through(ends_of(net), spans, others)
