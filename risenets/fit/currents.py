"""Currents within the ranges of the rises, which bear feeds, or a cut that fights these."""

from risenets.base.checks import is_row, is_short_row, is_tuple_of, is_whole
from risenets.base.ranges import holds
from risenets.errors import InvalidFeed, Refused
from risenets.fit.flows import furthest_led, least_through, led, some_within, too_much
from risenets.net.nets import check_net, check_wire, ends_of, is_cut, is_loop, rows_of
from risenets.rise.rises import span_of


def current_ranges(net):
    """The ranges of the currents of all wires."""
    check_net(net)
    return tuple(current_spans(net))


def is_within(net, feeds, value):
    """Whether the value is within currents that bear the feeds."""
    check_net(net)
    check_feeds(net, feeds)
    return do_bear(net, feeds, value)


def currents_or_cut(net):
    """Within currents that add up, or a cut that fights."""
    check_net(net)
    return borne(net, no_feeds(net))


def fed_or_cut(net, feeds):
    """Within currents that bear the feeds, or a cut that fights them."""
    check_net(net)
    check_feeds(net, feeds)
    return borne(net, feeds)


def is_fed_or_cut(net, feeds, value):
    """Whether the value is what fed_or_cut can tell."""
    check_net(net)
    check_feeds(net, feeds)
    if not is_tuple_of(value, 2):
        return False
    word, told = value
    if word == "currents":
        return do_bear(net, feeds, told)
    return word == "cut" and does_cut_fight(net, feeds, told)


def most_current(net, feeds, wire):
    """The most current of a wire, how it grows without end, or a cut that fights the feeds."""
    check_net(net)
    check_feeds(net, feeds)
    check_wire(net, wire)
    word, told = borne(net, feeds)
    if word == "cut":
        return (word, told)
    word, currents, told = furthest_within(net, told, wire, 1)
    if word == "endless":
        return (word, currents, told)
    return (word, currents[wire], currents, told)


def is_most_current(net, feeds, wire, value):
    """Whether the value is what most_current can tell."""
    check_net(net)
    check_feeds(net, feeds)
    check_wire(net, wire)
    if is_tuple_of(value, 2):
        return value[0] == "cut" and does_cut_fight(net, feeds, value[1])
    if is_tuple_of(value, 3):
        word, currents, steps = value
        return word == "endless" and do_bear(net, feeds, currents) and is_endless_loop(net, wire, steps)
    if not is_tuple_of(value, 4) or value[0] != "most":
        return False
    _, number, currents, knots = value
    if not is_whole(number) or not do_bear(net, feeds, currents) or currents[wire] != number:
        return False
    if knots is None:
        return current_spans(net)[wire][1] == number
    return is_cut(net, knots) and bound_by_cut(net, feeds, wire, knots) == number


def current_ends(net, feeds, wire):
    """The least and the most value of the current of a wire."""
    check_net(net)
    check_feeds(net, feeds)
    check_wire(net, wire)
    word, told = borne(net, feeds)
    if word == "cut":
        raise Refused((word, told))
    ends = [furthest_within(net, told, wire, way) for way in (-1, 1)]
    return tuple([currents[wire] if word == "most" else None for word, currents, _ in ends])


def check_feeds(net, value):
    """Refuse what is no feeds of the net."""
    if not is_short_row(value, net.knots) or sum(value) != 0:
        raise InvalidFeed("not integers for all knots that add up to 0")


def no_feeds(net):
    """Feeds of 0."""
    return (0,) * net.knots


def current_spans(net):
    """The spans of the currents of all wires."""
    return [span_of(row, "flat") for row in rows_of(net)]


def do_bear(net, feeds, value):
    """Whether the value is within currents that bear the feeds."""
    if not is_row(value, len(net)):
        return False
    if any([more != 0 for more in too_much(net.knots, ends_of(net), value, feeds)]):
        return False
    return all([holds(span, current) for span, current in zip(current_spans(net), value)])


def borne(net, feeds):
    """("currents", currents) that bear the feeds, or ("cut", knots) with a cut that fights them."""
    spans = current_spans(net)
    currents, starts, reached = led(net.knots, ends_of(net), spans, some_within(spans), feeds)
    if not starts:
        return ("currents", tuple(currents))
    return ("cut", tuple([knot for knot in range(net.knots) if knot not in reached]))


def does_cut_fight(net, feeds, value):
    """Whether the value is a cut that fights the feeds."""
    if not is_cut(net, value):
        return False
    least = least_through(ends_of(net), current_spans(net), value)
    return least is not None and least > sum([feeds[knot] for knot in value])


def furthest_within(net, currents, wire, way):
    """The furthest within current of a wire, reached from within currents."""
    return furthest_led(net.knots, ends_of(net), current_spans(net), currents, wire, way)


def is_endless_loop(net, wire, value):
    """Whether the value is a loop with the wire gone by 1 along which currents grow without end."""
    if not is_loop(net, value) or (wire, 1) not in value:
        return False
    spans = current_spans(net)
    return all([spans[gone][1 if way == 1 else 0] is None for gone, way in value])


def bound_by_cut(net, feeds, wire, cut):
    """The most current that a cut lets a wire have that leaves it, None if there is none."""
    tail, head, _ = net.wires[wire]
    if tail not in cut or head in cut:
        return None
    spans = current_spans(net)
    spans[wire] = (0, 0)
    least = least_through(ends_of(net), spans, cut)
    return None if least is None else sum([feeds[knot] for knot in cut]) - least
