"""Boxes: nets with two ends, joined with others and put in for wires."""

from risenets.base.checks import is_index, is_row, is_tuple_of, is_whole
from risenets.ends.follow import followed, state_at
from risenets.errors import InvalidBox, InvalidNumber, Refused, TooMany
from risenets.net.nets import MOST_KNOTS, MOST_WIRES, NEAR, Net, check_net, check_wire, drops_by, surplus_by
from risenets.rise.energies import anchor_by
from risenets.rise.joins import has_point, parting_by
from risenets.state.states import check_state, wires_off


def is_box(value):
    """Whether the value is a box."""
    if not is_tuple_of(value, 3) or not isinstance(value[0], Net):
        return False
    net, start, goal = value
    return is_index(start, net.knots) and is_index(goal, net.knots) and start != goal


def is_had(box, outside, value):
    """Whether the value is a pair (currents, heights) that the outside can have with the box."""
    check_box(box)
    check_box(outside)
    net, start, goal = outside
    if not is_tuple_of(value, 2) or not is_row(value[0], len(net)) or not is_row(value[1], net.knots):
        return False
    currents, heights = value
    more = list(surplus_by(net, currents))
    taken = more[start]
    more[start], more[goal] = 0, more[goal] + taken
    if any([number != 0 for number in more]) or wires_off(net, currents, heights):
        return False
    return is_seen_at(box, taken, heights[start] - heights[goal])


def joined(box, outside):
    """The net of both, their starts being one, and their goals."""
    check_box(box)
    check_box(outside)
    net, start, goal = box
    return merged(net.knots, net.wires, start, goal, outside)


def battery(tension):
    """The outside of one battery."""
    if not is_whole(tension) or abs(tension) > NEAR:
        raise InvalidNumber(tension)
    return (Net(2, ((0, 1, ("level", tension)),)), 0, 1)


def alike_or_parted(one, other):
    """Whether both boxes are alike, or a point that parts them."""
    check_box(one)
    check_box(other)
    return alike_by(seen_from(one), seen_from(other))


def is_alike_answer(one, other, value):
    """Whether the value is what alike_or_parted can tell."""
    check_box(one)
    check_box(other)
    if is_tuple_of(value, 1):
        return value[0] == "alike" and seen_from(one) == seen_from(other)
    if not is_tuple_of(value, 4) or value[0] != "parted" or not is_row(value[1:], 3):
        return False
    _, which, current, tension = value
    return (which in (0, 1) and is_seen_at(one, current, tension) == (which == 0)
            and is_seen_at(other, current, tension) == (which == 1))


def alike_by(first, second):
    """Whether boxes that are seen as these rises, None for a fight, are alike, or a point that parts them."""
    if first == second:
        return ("alike",)
    if first is None or second is None:
        current, tension = anchor_by(second if first is None else first)
        return ("parted", 1 if first is None else 0, current, tension)
    current, tension = parting_by(first, second)
    return ("parted", 0 if has_point(first, current, tension) else 1, current, tension)


def put_in(net, wire, box):
    """The net with the box in the place of the wire."""
    check_net(net)
    check_wire(net, wire)
    check_box(box)
    return net_with(net, wire, box)


def filled(net, wire, box, state):
    """A state of the net with the box in the place of the wire, from one of the net."""
    check_net(net)
    check_wire(net, wire)
    check_box(box)
    net_with(net, wire, box)
    check_state(net, state)
    currents, heights = state
    inner, start, goal = box
    told = state_at(inner, start, goal, currents[wire], drops_by(net, heights)[wire])
    if told is None:
        raise Refused(("point",))
    higher = heights[net.wires[wire][0]] - told[1][start]
    others = [told[1][knot] + higher for knot in range(inner.knots) if knot not in (start, goal)]
    return ((*currents[:wire], *currents[wire + 1:], *told[0]), (*heights, *others))


def read_off(net, wire, box, state):
    """The state of the net, from one of it with the box in the place of the wire."""
    check_net(net)
    check_wire(net, wire)
    check_box(box)
    check_state(net_with(net, wire, box), state)
    inner, start, _ = box
    count = len(net) - 1
    outer, heights = state[0][:count], state[1][:net.knots]
    current = -surplus_by(inner, state[0][count:])[start]
    tail, head, rise = net.wires[wire]
    if not has_point(rise, current, heights[tail] - heights[head]):
        raise Refused(("point",))
    return ((*outer[:wire], current, *outer[wire:]), heights)


def check_box(value):
    """Refuse what is no box."""
    if not is_box(value):
        raise InvalidBox("not a net with two unlike knots")


def merged(knots, wires, start, goal, box):
    """The net of knots and wires with a box, its ends put on two of the knots."""
    net, first, second = box
    others = [knot for knot in range(net.knots) if knot not in (first, second)]
    places = {first: start, second: goal}
    for k, knot in enumerate(others):
        places[knot] = knots + k
    if knots + len(others) > MOST_KNOTS:
        raise TooMany(MOST_KNOTS)
    if len(wires) + len(net) > MOST_WIRES:
        raise TooMany(MOST_WIRES)
    inner = [(places[tail], places[head], rise) for tail, head, rise in net.wires]
    return Net(knots + len(others), (*wires, *inner))


def net_with(net, wire, box):
    """The net with the box in the place of the wire."""
    tail, head, _ = net.wires[wire]
    return merged(net.knots, net.wires[:wire] + net.wires[wire + 1:], tail, head, box)


def is_seen_at(box, current, tension):
    """Whether the point is on the rise that the box is seen as."""
    net, start, goal = box
    return state_at(net, start, goal, current, tension) is not None


def seen_from(box):
    """The rise that a box is seen as, of any size, None for a fight."""
    net, start, goal = box
    told = followed(net, start, goal)
    return told[1] if told[0] == "rise" else None
