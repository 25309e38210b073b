"""What two ends of a net see: one rise, or a fight that stands whatever is put in."""

from risenets.base.checks import check_number, is_row, is_tuple_of
from risenets.errors import InvalidOperation
from risenets.ends.follow import followed
from risenets.fit.heights import is_free_lot
from risenets.net.nets import check_knot, check_net, is_cut, is_way, surplus_by
from risenets.rise.joins import within_limits
from risenets.rise.rises import corners_in, is_rise, row_of
from risenets.state.box import side_of, state_ranges, state_spans
from risenets.state.states import does_fight, does_rest


def seen(net, start, goal):
    """What is seen from the two ends: ("rise", rise), or a fight."""
    check_ends(net, start, goal)
    return rise_or_fight(net, start, goal)


def is_seen(net, start, goal, value):
    """Whether the value is what seen can tell."""
    check_ends(net, start, goal)
    if not is_tuple_of(value, 2):
        return False
    if value[0] == "rise":
        return is_rise(value[1]) and followed(net, start, goal)[:2] == value
    return is_end_fight(net, start, goal, value)


def is_with(net, start, goal, current, value):
    """Whether the value is a state with this put-in."""
    check_knots(net, start, goal)
    check_number(current)
    check_apart(start, goal)
    return does_rest_with(net, start, goal, current, value)


def seen_paper(net, start, goal):
    """What is seen from the two ends, with a paper of it."""
    check_ends(net, start, goal)
    told = followed(net, start, goal)
    if told[0] == "rise":
        within_limits(told[1])
    return told


def is_seen_paper(net, start, goal, value):
    """Whether the value is what seen_paper can tell."""
    check_ends(net, start, goal)
    if is_tuple_of(value, 2):
        return is_end_fight(net, start, goal, value)
    if not is_tuple_of(value, 5) or value[0] != "rise":
        return False
    _, rise, states, low, high = value
    if not is_rise(rise) or not are_corner_states(net, start, goal, rise, states):
        return False
    kinds = [piece[0] for piece in row_of(rise)]
    return (does_end(net, goal, start, states[0], kinds[0], low)
            and does_end(net, start, goal, states[-1], kinds[-1], high))


def check_ends(net, start, goal):
    """Refuse what is no net with two unlike knots."""
    check_knots(net, start, goal)
    check_apart(start, goal)


def check_knots(net, start, goal):
    """Refuse what is no net with two knots."""
    check_net(net)
    check_knot(net, start)
    check_knot(net, goal)


def check_apart(start, goal):
    """Refuse one knot as both ends."""
    if start == goal:
        raise InvalidOperation("one knot as both ends")


def rise_or_fight(net, start, goal):
    """What is seen from two unlike knots, refused if the rise is too great."""
    told = followed(net, start, goal)
    if told[0] != "rise":
        return told
    return ("rise", within_limits(told[1]))


def is_end_fight(net, start, goal, value):
    """Whether the value is a fight that stands whatever is put in."""
    if not does_fight(net, value):
        return False
    return value[0] == "loop" or (start in value[1]) == (goal in value[1])


def does_rest_with(net, start, goal, current, value):
    """Whether the value is a state with this put-in."""
    feeds = [0] * net.knots
    feeds[start], feeds[goal] = current, -current
    return does_rest(net, value, feeds)


def are_corner_states(net, start, goal, rise, value):
    """Whether the value is a tuple of a state for each corner, or of one for a straight rise."""
    corners = corners_in(rise)
    if not corners:
        return is_tuple_of(value, 1) and is_straight_state(net, start, goal, rise, value[0])
    if not is_tuple_of(value, len(corners)):
        return False
    return all([does_rest_with(net, start, goal, current, state) and push_of(state, start, goal) == tension
                for (current, tension), state in zip(corners, value)])


def is_straight_state(net, start, goal, rise, value):
    """Whether the value is a state with a point of a straight rise."""
    if not is_tuple_of(value, 2) or not is_row(value[0], len(net)):
        return False
    current = -surplus_by(net, value[0])[start]
    if not does_rest_with(net, start, goal, current, value):
        return False
    word, told = rise
    return told == (current if word == "plumb" else push_of(value, start, goal))


def push_of(state, start, goal):
    """The height of the start less that of the goal."""
    return state[1][start] - state[1][goal]


def does_end(net, source, sink, state, kind, value):
    """Whether the value shows that behind this state what is seen goes on without end, by a piece of the kind.

    A way from the source to the sink along which currents can grow shows it for a flat piece, a cut with the
    source alone that can be raised for a steep one.
    """
    if kind == "flat":
        spans = state_spans(net, state)
        return is_way(net, source, sink, value) and all([spans[wire][side_of(way)] is None for wire, way in value])
    if not is_cut(net, value) or source not in value or sink in value:
        return False
    return is_free_lot(net, state_ranges(net, state), value)
