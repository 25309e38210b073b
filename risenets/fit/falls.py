"""Heights whose tensions are of ranges, told by lengths of ways.

Along a way the height falls by at most its *fall*: the greatest tensions of the wires gone by 1, less the
least ones of those gone by -1. Wires are told by `ends`, a list of pairs (tail, head), with a range
(low, high) for each of them; integers may be of any length.
"""

from risenets.base.arcs import least_lengths, no_arcs, turned_arcs


def fitted(knots, ends, ranges):
    """("heights", heights) with tensions of the ranges, or ("loop", steps) with a loop that bars them."""
    lengths, told = least_lengths(turned_arcs(falls(knots, ends, ranges, [0] * len(ends))), list(range(knots)))
    if lengths is None:
        return ("loop", told)
    return ("heights", [lengths[knot] for knot in range(knots)])


def falls(knots, ends, ranges, tensions):
    """Arcs with how much more than by these tensions the height can fall along them."""
    arcs = no_arcs(knots)
    for wire, (tail, head) in enumerate(ends):
        low, high = ranges[wire]
        if high is not None:
            arcs[tail].append((head, (wire, 1), high - tensions[wire]))
        if low is not None:
            arcs[head].append((tail, (wire, -1), tensions[wire] - low))
    return arcs


def fall_span(knots, ends, ranges, start, goal):
    """The least and the most fall from the one knot to the other one, None without end."""
    arcs = falls(knots, ends, ranges, [0] * len(ends))
    most = least_lengths(arcs, [start])[0].get(goal, None)
    least = least_lengths(arcs, [goal])[0].get(start, None)
    return (None if least is None else -least, most)


def lowered(knots, ends, ranges, heights, starts, goals):
    """Heights lowered to where a way from some start to the nearest of the goals falls as much as it can.

    The triple of the heights, None if no goal is reached, of the knots that are reached from the starts, and
    of a shortest way to each of them. The ranges have the tensions by the heights.
    """
    tensions = tensions_by(ends, heights)
    lengths, ways = least_lengths(falls(knots, ends, ranges, tensions), starts)
    near = [lengths[goal] for goal in goals if goal in lengths]
    found = None
    if near:
        far = min(near)
        found = [heights[knot] - min(lengths.get(knot, far), far) for knot in range(knots)]
    return found, sorted(list(lengths)), ways


def tensions_by(ends, heights):
    """The tensions of all wires."""
    return [heights[tail] - heights[head] for tail, head in ends]
