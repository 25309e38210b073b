"""Shapes of nets: which wires stand between two knots, and what is left of wires that have a form.

Wires are told by `ends`, a dict from their indices to pairs (tail, head).
"""

from risenets.base.arcs import no_arcs, ways_along
from risenets.base.checks import is_row


def wires_between(knots, ends, start, goal):
    """The wires along which a way goes from the start to the goal, no knot twice.

    A wire is one exactly if no single knot parts it from both ends.
    """
    found = list(ends)
    for barred in range(knots):
        arcs = arcs_without(knots, ends, barred)
        near = ways_along(arcs, [knot for knot in (start, goal) if knot != barred])
        found = [wire for wire in found if any([knot in near for knot in ends[wire]])]
    return sorted(found)


def arcs_without(knots, ends, barred):
    """The arcs of all wires, both ways, but for those at one knot."""
    arcs = no_arcs(knots)
    for wire, (tail, head) in ends.items():
        if barred not in (tail, head):
            arcs[tail].append((head, (wire, 1)))
            arcs[head].append((tail, (wire, -1)))
    return arcs


def leanest(ends, has):
    """What is left if each wire without which the others still have the form is taken off."""
    left = dict(ends)
    for wire in list(ends):
        fewer = {other: left[other] for other in left if other != wire}
        if has(fewer):
            left = fewer
    return left


def steps_at(ends):
    """The steps that go from each knot that has some."""
    found = {}
    for wire, (tail, head) in ends.items():
        found.setdefault(tail, []).append((wire, 1))
        found.setdefault(head, []).append((wire, -1))
    return {knot: found[knot] for knot in sorted(list(found))}


def start_of(ends, step):
    """The knot from which the step goes."""
    wire, way = step
    return ends[wire][0 if way == 1 else 1]


def goal_of(ends, step):
    """The knot to which the step comes."""
    wire, way = step
    return ends[wire][1 if way == 1 else 0]


def ways_of_hubs(ends):
    """The hubs, which are the knots with more than two wires, and the ways from each to each that it has.

    All other knots have two wires; the ways are told by a dict from pairs of hubs.
    """
    going = steps_at(ends)
    hubs = [knot for knot in going if len(going[knot]) > 2]
    ways = {}
    for hub in hubs:
        for step in going[hub]:
            way = way_on(ends, going, hubs, step)
            ways[hub, goal_of(ends, way[-1])] = tuple(way)
    return hubs, ways


def way_on(ends, going, hubs, first):
    """The way that goes on from a step to the next hub."""
    way = [first]
    while goal_of(ends, way[-1]) not in hubs:
        knot = goal_of(ends, way[-1])
        way.extend([step for step in going[knot] if step[0] != way[-1][0]])
    return way


def are_hub_ways(ends, hubs, pairs, value):
    """Whether the value is a tuple of a way for each pair of hubs, no inner knot being a hub or on two ways."""
    if not isinstance(value, tuple) or len(value) != len(pairs):
        return False
    met = list(hubs)
    for (start, goal), way in zip(pairs, value):
        if not isinstance(way, tuple) or not all([is_step_of(ends, step) for step in way]):
            return False
        goals = [goal_of(ends, step) for step in way]
        # No way is empty, as the goal is another knot than the start.
        if [start_of(ends, step) for step in way] != [start] + goals[:-1] or goals[-1] != goal:
            return False
        met.extend(goals[:-1])
    return len(set(met)) == len(met)


def is_step_of(ends, value):
    """Whether the value is one of the wires with a way in which it is gone."""
    return is_row(value, 2) and value[0] in ends and value[1] in (1, -1)
