"""Readings of a rise that nobody knows: points that are on it."""

from risenets.base.checks import is_index, is_tuple_of, is_whole
from risenets.base.ranges import holds
from risenets.change.one import net_without
from risenets.ends.follow import followed
from risenets.errors import InvalidNumber, InvalidReadings, Refused
from risenets.net.nets import check_net, check_wire
from risenets.rise.joins import has_point
from risenets.rise.rises import corners_in, is_rise, rise_by, row_of, span_across, span_of

MOST_READINGS = 60
FARTHEST = 10 ** 17


def agreement(readings):
    """A rise that has all readings, or two of them that cross."""
    check_readings(readings)
    pair = crossed_pair(readings)
    if pair is not None:
        return ("crossed", *pair)
    return ("rise", rise_through(readings))


def is_agreement(readings, value):
    """Whether the value is what agreement can tell."""
    check_readings(readings)
    if is_tuple_of(value, 2):
        return value[0] == "rise" and has_all(value[1], readings)
    return is_tuple_of(value, 3) and value[0] == "crossed" and is_crossed_pair(readings, value[1:])


def tensions_told(readings, current):
    """The least and the greatest possible tension at a current."""
    check_readings(readings)
    check_near(current)
    refuse_crossed(readings)
    return possible_span(readings, current)


def currents_told(readings, tension):
    """The least and the greatest possible current along a tension."""
    check_readings(readings)
    check_near(tension)
    refuse_crossed(readings)
    return possible_span(exchanged_pairs(readings), tension)


def place_told(readings, current, tension):
    """Whether the point is sure, possible or barred."""
    check_point(readings, current, tension)
    return place_by_readings(readings, current, tension)


def avoiding(readings, current, tension):
    """A rise that has all readings, but not this point, None for a sure one."""
    check_point(readings, current, tension)
    place = place_by_readings(readings, current, tension)
    if place == "sure":
        return None
    if place == "barred":
        return rise_through(readings)
    beside = [point for point in ((current + 1, tension - 1), (current - 1, tension + 1))
              if is_possible(readings, point[0], point[1])]
    return rise_through((*readings, beside[0]))


def is_avoiding(readings, current, tension, value):
    """Whether the value is what avoiding can tell."""
    check_point(readings, current, tension)
    if value is None:
        return is_sure(readings, current, tension)
    return has_all(value, readings) and not has_point(value, current, tension)


def can_hide(net, wire, readings, current, tension):
    """Whether a wire of which only readings are known can have this point in a state."""
    check_net(net)
    check_wire(net, wire)
    check_point(readings, current, tension)
    rise = rise_without(net, wire)
    return is_possible(readings, current, tension) and has_point(rise, current, -tension)


def hidden_currents(net, wire, readings):
    """The least and the greatest current that a wire can have of which only readings are known, None if none."""
    check_net(net)
    check_wire(net, wire)
    check_readings(readings)
    refuse_crossed(readings)
    return shared_currents(readings, rise_without(net, wire))


def check_readings(value):
    """Refuse what is no readings."""
    if not is_readings(value):
        raise InvalidReadings("not a tuple of 1 to 60 pairs of integers")


def check_near(value):
    """Refuse what is no integer that a reading can have."""
    if not is_near(value):
        raise InvalidNumber(value)


def check_point(readings, current, tension):
    """Refuse wrong readings, wrong numbers, and then readings that do not agree."""
    check_readings(readings)
    check_near(current)
    check_near(tension)
    refuse_crossed(readings)


def refuse_crossed(readings):
    """Refuse readings of which two cross."""
    pair = crossed_pair(readings)
    if pair is not None:
        raise Refused(("crossed", *pair))


def is_readings(value):
    """Whether the value is readings."""
    if not isinstance(value, tuple) or not 1 <= len(value) <= MOST_READINGS:
        return False
    return all([is_tuple_of(point, 2) and is_near(point[0]) and is_near(point[1]) for point in value])


def is_near(value):
    """Whether the value is an integer that a reading can have."""
    return is_whole(value) and abs(value) <= FARTHEST


def do_cross(one, other):
    """Whether one of both points has a greater current and a lesser tension."""
    right, up = one[0] - other[0], one[1] - other[1]
    return (right > 0 and up < 0) or (right < 0 and up > 0)


def crossed_pair(readings):
    """The first two readings that cross, None if all agree."""
    for i in range(len(readings)):
        for j in range(i + 1, len(readings)):
            if do_cross(readings[i], readings[j]):
                return (i, j)
    return None


def is_crossed_pair(readings, value):
    """Whether the pair is the indices of two readings that cross, the lesser one first."""
    if not all([is_index(at, len(readings)) for at in value]):
        return False
    return value[0] < value[1] and do_cross(readings[value[0]], readings[value[1]])


def has_all(value, readings):
    """Whether the value is a rise that has all readings."""
    return is_rise(value) and all([has_point(value, current, tension) for current, tension in readings])


def rise_through(readings):
    """A rise that has all of the readings, which agree: from each one to the next a flat and a steep piece."""
    row = sorted(readings)
    points = [row[0]]
    for current, tension in row[1:]:
        points.extend([(current, points[-1][1]), (current, tension)])
    return rise_by("flat", points, "flat")


def exchanged_pairs(readings):
    """The readings with currents and tensions exchanged."""
    return [(tension, current) for current, tension in readings]


def possible_span(readings, current):
    """The least and the greatest possible tension at a current, None without end."""
    return (max([y for x, y in readings if x < current], default=None),
            min([y for x, y in readings if x > current], default=None))


def is_possible(readings, current, tension):
    """Whether the point crosses none of the readings."""
    return not any([do_cross(point, (current, tension)) for point in readings])


def is_sure(readings, current, tension):
    """Whether the point is on every rise with all readings."""
    return (is_between(readings, current, tension)
            or is_between(exchanged_pairs(readings), tension, current))


def is_between(readings, current, tension):
    """Whether the point lies between two readings of its current, or is one of them."""
    tensions = [y for x, y in readings if x == current]
    return bool(tensions) and min(tensions) <= tension <= max(tensions)


def place_by_readings(readings, current, tension):
    """Whether the point is sure, possible or barred."""
    if is_sure(readings, current, tension):
        return "sure"
    return "possible" if is_possible(readings, current, tension) else "barred"


def rise_without(net, wire):
    """What the net without the wire is seen as from its head and its tail, refused if it is a fight."""
    tail, head, _ = net.wires[wire]
    told = followed(net_without(net, wire), head, tail)
    if told[0] == "cut":
        raise Refused(told)
    if told[0] == "loop":
        # Wires behind the one that is left out have one index more in the net.
        steps = [(gone + 1 if gone >= wire else gone, way) for gone, way in told[1]]
        raise Refused(("loop", tuple(steps)))
    return told[1]


def shared_currents(readings, rise):
    """The range of the currents x at which some possible tension y has (x, -y) on the rise, None if none.

    Along the rise -y falls, and the possible tensions rise: so they share what lies between two currents. These
    are currents of readings or of the rise's turns; if they are shared beyond all of them, it is without end.
    """
    row = row_of(rise)
    span = span_of(row, "flat")
    turns = sorted([x for x, _ in (*readings, *corners_in(rise))] + [end for end in span if end is not None])
    near = [turns[0] - 1, *turns, turns[-1] + 1]
    found = [x for x in near if holds(span, x) and is_shared_at(readings, row, x)]
    if not found:
        return None
    return (None if found[0] == near[0] else found[0], None if found[-1] == near[-1] else found[-1])


def is_shared_at(readings, row, current):
    """Whether some possible tension at the current is the opposite of one of the row."""
    low, high = possible_span(readings, current)
    least, most = span_across(row, "flat", current)
    return (low is None or least is None or -least >= low) and (high is None or most is None or -most <= high)
