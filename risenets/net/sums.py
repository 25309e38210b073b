"""Currents as sums of loops, heights as sums of cuts, numbers as tensions or not."""

from risenets.base.checks import is_row, is_short_row, is_tuple_of, is_whole
from risenets.errors import InvalidOperation, Refused
from risenets.net.nets import (
    all_steps, check_currents, check_heights, check_net, drops_by, is_loop,
    shortest_ways, step_goal, step_start, surplus_by)


def loops_of(net, currents):
    """Loops, each so many times, that make the currents and go no wire against its current."""
    check_net(net)
    check_currents(net, currents)
    for knot, more in enumerate(surplus_by(net, currents)):
        if more != 0:
            raise Refused(("surplus", knot))
    left = list(currents)
    found = []
    while any([number != 0 for number in left]):
        loop = loop_with(net, left)
        times = min([abs(left[wire]) for wire, _ in loop])
        for wire, way in loop:
            left[wire] -= way * times
        found.append((loop, times))
    return tuple(found)


def is_loops_of(net, currents, value):
    """Whether the value is what loops_of can tell."""
    check_net(net)
    check_currents(net, currents)
    if not isinstance(value, tuple) or len(value) > len(net):
        return False
    if not all([is_share(net, currents, share) for share in value]):
        return False
    wires = [tuple(sorted([wire for wire, _ in loop])) for loop, _ in value]
    if len(set(wires)) != len(wires):
        return False
    total = [0] * len(net)
    for loop, times in value:
        for wire, way in loop:
            total[wire] += way * times
    return tuple(total) == currents


def cuts_of(net, heights):
    """Cuts, each so many times, that make the heights, less the least one."""
    check_net(net)
    check_heights(net, heights)
    levels = sorted(set(heights))[::-1]
    found = []
    for k in range(len(levels) - 1):
        cut = tuple([knot for knot in range(net.knots) if heights[knot] >= levels[k]])
        found.append((cut, levels[k] - levels[k + 1]))
    return tuple(found)


def heights_or_turn(net, numbers):
    """Heights whose tensions are the numbers, or a loop round which they do not make 0."""
    check_net(net)
    check_numbers(net, numbers)
    heights = heights_along(net, numbers)
    tensions = drops_by(net, heights)
    for wire in range(len(net)):
        if tensions[wire] != numbers[wire]:
            return ("loop", loop_closed(net, ways_from_roots(net), wire))
    return ("heights", heights)


def is_heights_or_turn(net, numbers, value):
    """Whether the value is what heights_or_turn can tell."""
    check_net(net)
    check_numbers(net, numbers)
    if not is_tuple_of(value, 2):
        return False
    word, told = value
    if word == "heights":
        return is_row(told, net.knots) and drops_by(net, told) == numbers
    return word == "loop" and is_loop(net, told) and sum_along(numbers, told) != 0


def check_numbers(net, value):
    """Refuse what is no integer for each wire."""
    if not is_short_row(value, len(net)):
        raise InvalidOperation("not an integer for each wire")


def is_share(net, currents, value):
    """Whether the value is a loop that goes no wire against its current, and times from 1 on."""
    if not is_tuple_of(value, 2) or not is_loop(net, value[0]):
        return False
    loop, times = value
    if not is_whole(times) or times < 1:
        return False
    return all([way * currents[wire] >= 0 for wire, way in loop])


def loop_with(net, currents):
    """A loop gone with the currents, which add up and are not all 0."""
    steps = [step for step in all_steps(net) if step[1] * currents[step[0]] > 0]
    knots = [step_start(net, steps[0])]
    gone = []
    while knots.count(knots[-1]) == 1:
        onward = [step for step in steps if step_start(net, step) == knots[-1]]
        gone.append(onward[0])
        knots.append(step_goal(net, onward[0]))
    # What leads to the knot at which the way meets itself is not of the loop.
    return tuple(gone[knots.index(knots[-1]):])


def heights_along(net, numbers):
    """Heights with these tensions, integers of any length, along ways from the least knots of all components."""
    ways = ways_from_roots(net)
    return tuple([-sum_along(numbers, ways[knot]) for knot in range(net.knots)])


def sum_along(numbers, steps):
    """The sum of the numbers along the steps, those gone by -1 taken off."""
    return sum([way * numbers[wire] for wire, way in steps])


def ways_from_roots(net):
    """A way to each knot from the least one of its component."""
    steps = all_steps(net)
    ways = {}
    for knot in range(net.knots):
        if knot not in ways:
            ways.update(shortest_ways(net, knot, steps))
    return ways


def loop_closed(net, ways, wire):
    """The loop that a wire closes with the ways to its ends."""
    tail, head, _ = net.wires[wire]
    there, back = ways[tail], ways[head]
    same = 0
    while same < min(len(there), len(back)) and there[same] == back[same]:
        same += 1
    turned_back = [(k, -way) for k, way in back[same:][::-1]]
    return ((wire, 1), *turned_back, *there[same:])
