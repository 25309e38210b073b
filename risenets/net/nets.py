"""Nets of knots and wires, with their cuts and loops."""

from risenets.base.arcs import no_arcs, ways_along
from risenets.base.checks import ascends, is_index, is_row, is_short_row, is_tuple_of, is_whole
from risenets.errors import InvalidCurrents, InvalidHeights, InvalidNet, InvalidNumber, InvalidOperation
from risenets.rise.rises import corners_in, is_rise, row_of, size_of

MOST_KNOTS = 12
MOST_WIRES = 24
MOST_TURNS = 40
NEAR = 10 ** 12


class Net:
    """Knots 0, 1, .., and wires (tail, head, rise) between them."""

    def __init__(self, knots, wires):
        if not are_net_parts(knots, wires):
            raise InvalidNet("not 1 to 12 knots, and a tuple of at most 24 wires between them")
        self._knots = knots
        self._wires = wires

    @property
    def knots(self):
        """How many knots there are."""
        return self._knots

    @property
    def wires(self):
        """The tuple of the wires."""
        return self._wires

    def __len__(self):
        return len(self._wires)

    def __eq__(self, value):
        return isinstance(value, Net) and self._knots == value._knots and self._wires == value._wires

    def __str__(self):
        return f"net of {self._knots} knots, {len(self._wires)} wires"


def surplus(net, currents):
    """What more comes to each knot than goes."""
    check_net(net)
    check_currents(net, currents)
    return surplus_by(net, currents)


def drops(net, heights):
    """The tensions of all wires by the heights."""
    check_net(net)
    check_heights(net, heights)
    return drops_by(net, heights)


def work(net, currents, heights):
    """The sum of current times tension over all wires."""
    check_net(net)
    check_currents(net, currents)
    check_heights(net, heights)
    tensions = drops_by(net, heights)
    return sum([currents[k] * tensions[k] for k in range(len(tensions))])


def components(net):
    """The knots that hang together by wires, component by component."""
    check_net(net)
    steps = all_steps(net)
    found = []
    for knot in range(net.knots):
        together = tuple(sorted(list(shortest_ways(net, knot, steps))))
        if together[0] == knot:
            found.append(together)
    return tuple(found)


def is_cut(net, value):
    """Whether the value is a cut of the net."""
    check_net(net)
    if not isinstance(value, tuple) or not value:
        return False
    return all([is_index(knot, net.knots) for knot in value]) and ascends(value)


def is_loop(net, value):
    """Whether the value is a loop of the net."""
    check_net(net)
    if not isinstance(value, tuple) or not value:
        return False
    if not all([is_step(net, step) for step in value]):
        return False
    wires = [wire for wire, _ in value]
    starts = [step_start(net, step) for step in value]
    goals = [step_goal(net, step) for step in value]
    if len(set(wires)) != len(wires) or len(set(starts)) != len(starts):
        return False
    return goals == starts[1:] + starts[:1]


def cut_wires(net, cut):
    """The wires that leave the cut, and those that enter it."""
    check_net(net)
    check_cut(net, cut)
    tensions = drops_by(net, heights_by(net, cut))
    return (tuple([k for k in range(len(tensions)) if tensions[k] == 1]),
            tuple([k for k in range(len(tensions)) if tensions[k] == -1]))


def loop_currents(net, loop):
    """The currents that the loop tells."""
    check_net(net)
    check_loop(net, loop)
    return currents_by(net, loop)


def cut_heights(net, cut):
    """The heights that the cut tells."""
    check_net(net)
    check_cut(net, cut)
    return heights_by(net, cut)


def check_net(value):
    """Refuse what is no net."""
    if not isinstance(value, Net):
        raise InvalidNet("not a net")


def check_knot(net, value):
    """Refuse what is no knot of the net."""
    if not is_index(value, net.knots):
        raise InvalidNumber(value)


def check_wire(net, value):
    """Refuse what is no index of a wire."""
    if not is_index(value, len(net)):
        raise InvalidNumber(value)


def check_currents(net, value):
    """Refuse what is no integer for each wire."""
    if not is_short_row(value, len(net)):
        raise InvalidCurrents("not an integer for each wire")


def check_heights(net, value):
    """Refuse what is no integer for each knot."""
    if not is_short_row(value, net.knots):
        raise InvalidHeights("not an integer for each knot")


def check_cut(net, value):
    """Refuse what is no cut of the net."""
    if not is_cut(net, value):
        raise InvalidOperation("not a cut")


def check_loop(net, value):
    """Refuse what is no loop of the net."""
    if not is_loop(net, value):
        raise InvalidOperation("not a loop")


def are_net_parts(knots, wires):
    """Whether there is a net of these knots and wires."""
    if not is_whole(knots) or not 1 <= knots <= MOST_KNOTS:
        return False
    if not isinstance(wires, tuple) or len(wires) > MOST_WIRES:
        return False
    return all([is_wire(knots, wire) for wire in wires])


def is_wire(knots, value):
    """Whether the value is a wire between so many knots."""
    if not is_tuple_of(value, 3):
        return False
    tail, head, rise = value
    if not is_index(tail, knots) or not is_index(head, knots) or tail == head:
        return False
    return is_rise(rise) and len(corners_in(rise)) <= MOST_TURNS and size_of(rise) <= NEAR


def is_way(net, start, goal, value):
    """Whether the value is a way from the one knot to the other one, no knot twice."""
    if not isinstance(value, tuple) or not all([is_step(net, step) for step in value]):
        return False
    knots = [start] + [step_goal(net, step) for step in value]
    if len(set(knots)) != len(knots) or knots[-1] != goal:
        return False
    return [step_start(net, step) for step in value] == knots[:-1]


def is_step(net, value):
    """Whether the value is a wire with a way in which it is gone."""
    return is_row(value, 2) and is_index(value[0], len(net)) and value[1] in (1, -1)


# From here on currents and heights may be of any length.


def surplus_by(net, currents):
    """What more comes to each knot than goes."""
    more = [0] * net.knots
    for wire, (tail, head, _) in enumerate(net.wires):
        more[tail] -= currents[wire]
        more[head] += currents[wire]
    return tuple(more)


def drops_by(net, heights):
    """The tensions of all wires by the heights."""
    return tuple([heights[tail] - heights[head] for tail, head, _ in net.wires])


def currents_by(net, loop):
    """1 for each wire that is gone by 1, -1 for each one gone by -1, 0 for all others."""
    currents = [0] * len(net)
    for wire, way in loop:
        currents[wire] = way
    return tuple(currents)


def heights_by(net, cut):
    """1 for each knot of the cut, 0 for all others."""
    return tuple([1 if knot in cut else 0 for knot in range(net.knots)])


def step_start(net, step):
    """The knot from which the step goes."""
    wire, way = step
    return net.wires[wire][0 if way == 1 else 1]


def step_goal(net, step):
    """The knot to which the step comes."""
    wire, way = step
    return net.wires[wire][1 if way == 1 else 0]


def all_steps(net):
    """All wires, each one both ways."""
    return [(wire, way) for wire in range(len(net)) for way in (1, -1)]


def shortest_ways(net, start, steps):
    """A shortest way, made of these steps, to each knot that is reached from the start."""
    arcs = no_arcs(net.knots)
    for step in steps:
        arcs[step_start(net, step)].append((step_goal(net, step), step))
    return ways_along(arcs, [start])


def ends_of(net):
    """The pairs (tail, head) of all wires."""
    return [(tail, head) for tail, head, _ in net.wires]


def rows_of(net):
    """The rows of the pieces of all rises."""
    return [row_of(rise) for _, _, rise in net.wires]
