"""Currents within spans, led from knots with too much to knots with too little.

Wires are told by `ends`, a list of pairs (tail, head), with a span (least, most) for each of them; integers
may be of any length.
"""

from risenets.base.arcs import no_arcs, ways_along
from risenets.base.ranges import clamped


def led(knots, ends, spans, currents, feeds):
    """Currents led within the spans until they bear the feeds, or no way is left.

    The triple of the currents, of the knots that still have too much, none if the feeds are borne, and of
    the knots that are reached from them.
    """
    held = list(currents)
    while True:
        more = too_much(knots, ends, held, feeds)
        starts = [knot for knot in range(knots) if more[knot] > 0]
        ways = ways_along(arcs_with_room(knots, ends, spans, held), starts)
        goals = [knot for knot in ways if more[knot] < 0]
        if not goals:
            return held, starts, sorted(list(ways))
        way = ways[goals[0]]
        wire, turn = way[0]
        start = ends[wire][0 if turn == 1 else 1]
        lead(held, way, min([more[start], -more[goals[0]]] + rooms_of(spans, held, way)))


def furthest_led(knots, ends, spans, currents, wire, way):
    """The furthest current of a wire, reached from currents that are led round.

    ("most", currents, cut), the cut being None if the span of the wire ends there; or
    ("endless", currents, steps) with a loop that begins with the wire and goes on without end.
    """
    tail, head = ends[wire]
    start, goal = (head, tail) if way == 1 else (tail, head)
    held = list(currents)
    round_trip = endless_loop(knots, ends, spans, held, wire, way)
    if round_trip is not None:
        return ("endless", tuple(held), round_trip)
    while room_of(spans, held, (wire, way)) != 0:
        ways = ways_beside(knots, ends, spans, held, wire, start)
        if goal not in ways:
            cut = [knot for knot in range(knots) if (knot in ways) == (way == -1)]
            return ("most", tuple(held), tuple(cut))
        steps = ((wire, way), *ways[goal])
        lead(held, steps, min(rooms_of(spans, held, steps)))
    return ("most", tuple(held), None)


def endless_loop(knots, ends, spans, currents, wire, way):
    """A loop through the wire along which currents can go on without end, None if there is none."""
    tail, head = ends[wire]
    start, goal = (head, tail) if way == 1 else (tail, head)
    if room_of(spans, currents, (wire, way)) is not None:
        return None
    stiff = [(None if least is None else current, None if most is None else current)
             for (least, most), current in zip(spans, currents)]
    ways = ways_beside(knots, ends, stiff, currents, wire, start)
    return ((wire, way), *ways[goal]) if goal in ways else None


def ways_beside(knots, ends, spans, currents, wire, start):
    """Ways from a knot along which currents can be led, but for this wire."""
    arcs = arcs_with_room(knots, ends, spans, currents)
    return ways_along([[arc for arc in row if arc[1][0] != wire] for row in arcs], [start])


def arcs_with_room(knots, ends, spans, currents):
    """The arcs along which currents can be led within the spans."""
    arcs = no_arcs(knots)
    for wire, (tail, head) in enumerate(ends):
        least, most = spans[wire]
        if most is None or currents[wire] < most:
            arcs[tail].append((head, (wire, 1)))
        if least is None or least < currents[wire]:
            arcs[head].append((tail, (wire, -1)))
    return arcs


def room_of(spans, currents, step):
    """How much can be led by a step, None for any number."""
    wire, way = step
    end = spans[wire][1 if way == 1 else 0]
    return None if end is None else abs(end - currents[wire])


def rooms_of(spans, currents, steps):
    """How much can be led by each of the steps that has an end."""
    rooms = [room_of(spans, currents, step) for step in steps]
    return [room for room in rooms if room is not None]


def lead(currents, steps, times):
    """Lead so much along the steps: this changes the currents."""
    for wire, way in steps:
        currents[wire] += way * times


def too_much(knots, ends, currents, feeds):
    """What more comes to each knot than goes, by wires and by the feeds."""
    more = [feeds[knot] for knot in range(knots)]
    for wire, (tail, head) in enumerate(ends):
        more[tail] -= currents[wire]
        more[head] += currents[wire]
    return more


def some_within(spans):
    """A current within each span."""
    return [clamped(span, 0) for span in spans]


def least_through(ends, spans, cut):
    """The least that can leave the cut, less the most that can enter it; None if there is no least."""
    total = 0
    for (tail, head), (least, most) in zip(ends, spans):
        if (tail in cut) == (head in cut):
            continue
        bound, way = (least, 1) if tail in cut else (most, -1)
        if bound is None:
            return None
        total += way * bound
    return total
