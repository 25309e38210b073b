"""How what two ends see is followed, from state to state, and single pairs of it.

The *outer wire* goes from the goal to the start and stands behind all others: its current is what is put in.
"""

from risenets.fit.currents import current_spans, no_feeds
from risenets.fit.falls import fall_span, fitted, lowered
from risenets.fit.flows import furthest_led, led, some_within
from risenets.fit.heights import tension_spans
from risenets.net.nets import ends_of, rows_of
from risenets.rise.rises import rise_by, row_of
from risenets.state.search import ranges_at, settled, spans_at


def some_put_in(net, start, goal, feeds):
    """("state", currents, heights) with any put-in, which is the last current, or a fight of the ends."""
    word, told = fitted(net.knots, ends_of(net), tension_spans(net))
    if word == "loop":
        return ("loop", told)
    return settled_with(net, start, goal, ("level", told[goal] - told[start]), feeds)


def settled_with(net, start, goal, rise, feeds):
    """A state or a fight of the net with an outer wire that has this rise."""
    return settled(net.knots, ends_with(net, start, goal), rows_of(net) + [row_of(rise)], feeds)


def ends_with(net, start, goal):
    """The ends of all wires, and of the outer one."""
    return ends_of(net) + [(goal, start)]


def followed(net, start, goal):
    """("rise", rise, states, low, high) as the paper of what is seen, of any size, or a fight of the ends."""
    return followed_fed(net, start, goal, no_feeds(net))


def followed_fed(net, start, goal, feeds):
    """What is followed of a net that bears feeds, whatever is put in beside them."""
    told = some_put_in(net, start, goal, feeds)
    if told[0] != "state":
        return told
    below, first, low = followed_one_way(net, start, goal, told[1:], -1)
    above, last, high = followed_one_way(net, start, goal, told[1:], 1)
    states = below[::-1] + [told[1:]] + above
    points = [point_of(state, start, goal) for state in states]
    rise = rise_by(first, points, last)
    found = {point: (state[0][:-1], state[1]) for point, state in zip(points, states)}
    corners = [points[0]] if rise[0] in ("level", "plumb") else rise[1]
    return ("rise", rise, tuple([found[corner] for corner in corners]), low, high)


def followed_one_way(net, start, goal, state, way):
    """The states behind this one where what is seen turns, the kind of its end, and the paper of this."""
    source, sink = (start, goal) if way == 1 else (goal, start)
    ends, rows = ends_of(net), rows_of(net)
    currents, heights = state
    found = []
    while True:
        spans = spans_at(ends, rows, heights) + [(None, None)]
        word, currents, told = furthest_led(net.knots, ends_with(net, start, goal), spans, currents, len(net), way)
        if word == "endless":
            return found, "flat", told[1:]
        found.append((currents, tuple(heights)))
        told = ranges_at(rows, currents[:-1])
        heights, reached, _ = lowered(net.knots, ends, told, heights, [source], [sink])
        if heights is None:
            return found, "steep", tuple(reached)
        found.append((currents, tuple(heights)))


def point_of(state, start, goal):
    """The put-in and the push of a state."""
    currents, heights = state
    return (currents[-1], heights[start] - heights[goal])


def state_at(net, start, goal, current, tension):
    """A state with this put-in and this push, None if there is none."""
    told = settled_with(net, start, goal, ("level", -tension), no_feeds(net))
    if told[0] != "state":
        return None
    heights = told[2]
    spans = spans_at(ends_of(net), rows_of(net), heights) + [(current, current)]
    ends = ends_with(net, start, goal)
    currents, starts, _ = led(net.knots, ends, spans, some_within(spans), no_feeds(net))
    return None if starts else (tuple(currents[:-1]), heights)


def ranges_seen(net, start, goal):
    """The range of all put-ins and that of all pushes, None if a fight is seen."""
    told = some_put_in(net, start, goal, no_feeds(net))
    if told[0] != "state":
        return None
    ends, spans = ends_with(net, start, goal), current_spans(net) + [(None, None)]
    found = [furthest_led(net.knots, ends, spans, told[1], len(net), way) for way in (-1, 1)]
    put_in = tuple([currents[-1] if word == "most" else None for word, currents, _ in found])
    return (put_in, fall_span(net.knots, ends_of(net), tension_spans(net), start, goal))
