"""Nets that are fed at their knots: fed states, or a fight; what more feed changes."""

from risenets.base.checks import is_short, is_tuple_of, is_whole
from risenets.ends.follow import ends_with, followed_fed
from risenets.errors import InvalidNet, InvalidNumber, Refused
from risenets.fit.currents import borne, check_feeds, current_spans, does_cut_fight
from risenets.fit.flows import furthest_led
from risenets.fit.heights import does_bar, tension_spans
from risenets.net.nets import check_knot, check_net, components, ends_of, is_way, rows_of
from risenets.rise.joins import within_limits
from risenets.state.box import row_of_state, side_of
from risenets.state.search import settled
from risenets.state.states import does_rest

GROUND = 0


def fed_or_fight(net, feeds):
    """A fed state, or a cut or a loop that fights."""
    check_fed(net, feeds)
    return settled_fed(net, feeds)


def is_fed_state(net, feeds, value):
    """Whether the value is a fed state."""
    check_fed(net, feeds)
    return does_rest(net, value, feeds) and value[1][GROUND] == 0


def is_fed_fight(net, feeds, value):
    """Whether the value is a cut that fights the feeds, or a loop that fights."""
    check_fed(net, feeds)
    if not is_tuple_of(value, 2):
        return False
    word, told = value
    if word == "cut":
        return does_cut_fight(net, feeds, told)
    return word == "loop" and does_bar(net, tension_spans(net), told)


def least_fed(net, feeds):
    """The least heights of all fed states, None for each one without end."""
    check_fed(net, feeds)
    return row_of_state(net, fed_state(net, feeds), GROUND, False)


def greatest_fed(net, feeds):
    """The greatest heights of all fed states, None for each one without end."""
    check_fed(net, feeds)
    return row_of_state(net, fed_state(net, feeds), GROUND, True)


def risen(net, feeds, knot, number):
    """How much the least, and how much the greatest heights rise if so much more is fed at a knot."""
    check_fed_at(net, feeds, knot)
    if not is_short(number) or number < 0:
        raise InvalidNumber(number)
    ahead, behind = fed_state(net, feeds), fed_state(net, fed_more(feeds, knot, number))
    return tuple([differences(row_of_state(net, ahead, GROUND, greatest), row_of_state(net, behind, GROUND, greatest))
                  for greatest in (False, True)])


def most_fed(net, feeds, knot):
    """How much more can be fed at a knot at most, with a cut that shows it, or a way along which any number can."""
    check_fed_at(net, feeds, knot)
    fed_state(net, feeds)
    return most_more(net, feeds, knot)


def is_most_fed(net, feeds, knot, value):
    """Whether the value is what most_fed can tell."""
    check_fed_at(net, feeds, knot)
    fed_state(net, feeds)
    if is_tuple_of(value, 2):
        return value[0] == "endless" and is_endless_way(net, knot, GROUND, value[1])
    if not is_tuple_of(value, 3) or value[0] != "most" or not is_whole(value[1]):
        return False
    _, number, knots = value
    if not does_cut_fight(net, fed_more(feeds, knot, number + 1), knots):
        return False
    return borne(net, fed_more(feeds, knot, number))[0] == "currents"


def fed_rise(net, feeds, knot):
    """The rise of how much more is fed at a knot, and of its height."""
    check_fed_at(net, feeds, knot)
    told = followed_fed(net, knot, GROUND, feeds)
    if told[0] != "rise":
        raise Refused(told)
    return within_limits(told[1])


def check_fed(net, feeds):
    """Refuse what is no net of one component, and what is no feeds of it."""
    check_net(net)
    if len(components(net)) != 1:
        raise InvalidNet("not a net of one component")
    check_feeds(net, feeds)


def check_fed_at(net, feeds, knot):
    """Refuse wrong nets and feeds, and what is no knot but the ground."""
    check_fed(net, feeds)
    check_knot(net, knot)
    if knot == GROUND:
        raise InvalidNumber(knot)


# From here on feeds may be of any length.


def settled_fed(net, feeds):
    """("state", currents, heights) with a fed state, or a cut or a loop that fights."""
    told = settled(net.knots, ends_of(net), rows_of(net), feeds)
    if told[0] != "state":
        return told
    word, currents, heights = told
    return (word, currents, tuple([height - heights[GROUND] for height in heights]))


def fed_state(net, feeds):
    """A fed state, refused if there is none."""
    told = settled_fed(net, feeds)
    if told[0] != "state":
        raise Refused(told)
    return told[1:]


def fed_more(feeds, knot, number):
    """The feeds with so much more at the knot, and so much less at the ground."""
    more = list(feeds)
    more[knot] += number
    more[GROUND] -= number
    return tuple(more)


def differences(ahead, behind):
    """How much each height rises, None where one of both is without end."""
    return tuple([None if None in (low, high) else high - low for low, high in zip(ahead, behind)])


def most_more(net, feeds, knot):
    """How much more can be fed at a knot, where currents bear the feeds."""
    # What is fed is led along a further wire from the ground to the knot.
    ends, spans = ends_with(net, knot, GROUND), current_spans(net) + [(None, None)]
    currents = (*borne(net, feeds)[1], 0)
    word, currents, told = furthest_led(net.knots, ends, spans, currents, len(net), 1)
    if word == "endless":
        return (word, told[1:])
    return (word, currents[-1], told)


def is_endless_way(net, start, goal, value):
    """Whether the value is a way along which each wire's current can go on without end."""
    spans = current_spans(net)
    return is_way(net, start, goal, value) and all([spans[wire][side_of(way)] is None for wire, way in value])
