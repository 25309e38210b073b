"""Plane nets: turns and faces, bars, and duals, whose states are those with currents and tensions exchanged."""

from risenets.base.arcs import no_arcs, ways_along
from risenets.base.checks import is_index, is_row, is_tuple_of
from risenets.errors import InvalidPlane, Refused, TooMany
from risenets.net.nets import (
    MOST_KNOTS, Net, all_steps, check_cut, check_loop, check_net, components, cut_wires, drops_by, ends_of,
    step_goal, step_start)
from risenets.net.shapes import are_hub_ways
from risenets.net.sums import heights_along
from risenets.plane.drawing import bars_of, drawn_turns, hub_pairs
from risenets.rise.joins import transposed_form
from risenets.state.states import check_state


def is_turns(net, value):
    """Whether the value is turns of the net."""
    check_net(net)
    if not is_tuple_of(value, net.knots):
        return False
    return all([is_turn(net, knot, value[knot]) for knot in range(net.knots)])


def faces_by(net, turns):
    """The faces."""
    check_turns(net, turns)
    return tuple(faces_of(net, turns))


def is_plane(net, turns):
    """Whether the turns are plane."""
    check_turns(net, turns)
    return are_plane(net, turns)


def turns_or_bars(net):
    """Plane turns, or bars."""
    check_net(net)
    ends = dict(enumerate(ends_of(net)))
    turns = drawn_turns(net.knots, ends)
    if turns is None:
        return ("bars", *bars_of(net.knots, ends))
    return ("turns", tuple([tuple(turn) for turn in turns]))


def is_bars(net, value):
    """Whether the value is bars of the net."""
    check_net(net)
    if not is_tuple_of(value, 2):
        return False
    hubs, ways = value
    if not is_tuple_of(hubs, 5) and not is_tuple_of(hubs, 6):
        return False
    if not all([is_index(knot, net.knots) for knot in hubs]):
        return False
    return are_hub_ways(dict(enumerate(ends_of(net))), hubs, hub_pairs(hubs), ways)


def dual_by(net, turns):
    """The dual and its turns."""
    check_turns(net, turns)
    refuse_undual(net, turns)
    return (dual_of(net, turns), dual_turns(net, turns))


def dual_state(net, turns, state):
    """The state of the dual that a state of the net tells, its height being 0 at the knot 0."""
    check_turns(net, turns)
    check_state(net, state)
    refuse_undual(net, turns)
    currents, heights = state
    return (drops_by(net, heights), heights_along(dual_of(net, turns), currents))


def dual_loop(net, turns, loop):
    """The cut of the dual that a loop tells."""
    check_turns(net, turns)
    check_loop(net, loop)
    refuse_undual(net, turns)
    faces, wires = face_of_steps(net, turns), [wire for wire, _ in loop]
    arcs = no_arcs(len(faces_of(net, turns)))
    for wire, way in all_steps(net):
        if wire not in wires:
            arcs[faces[wire, way]].append((faces[wire, -way], (wire, way)))
    return tuple(sorted(list(ways_along(arcs, [faces[step] for step in loop]))))


def dual_cut(net, turns, knots):
    """The loop of the dual that a cut tells."""
    check_turns(net, turns)
    check_cut(net, knots)
    refuse_undual(net, turns)
    others = [knot for knot in range(net.knots) if knot not in knots]
    if not others or not do_hang(net, knots) or not do_hang(net, others):
        raise Refused(("split",))
    leaving, entering = cut_wires(net, knots)
    dual = dual_of(net, turns)
    steps = {step_start(dual, step): step for step in [(k, 1) for k in leaving] + [(k, -1) for k in entering]}
    loop = [min(list(steps.values()))]
    while len(loop) < len(steps):
        loop.append(steps[step_goal(dual, loop[-1])])
    return tuple(loop)


def check_turns(net, value):
    """Refuse what is no net, and what is no turns of it."""
    if not is_turns(net, value):
        raise InvalidPlane("not the wires of each knot, each one once")


def refuse_undual(net, turns):
    """Refuse turns by which the net has no dual."""
    if len(components(net)) != 1:
        raise Refused(("parts",))
    if not are_plane(net, turns):
        raise Refused(("turns",))
    faces = face_of_steps(net, turns)
    for wire in range(len(net)):
        if faces[wire, 1] == faces[wire, -1]:
            raise Refused(("bridge", wire))
    if len(faces_of(net, turns)) > MOST_KNOTS:
        raise TooMany(MOST_KNOTS)


def is_turn(net, knot, value):
    """Whether the value is a tuple of all wires that end at the knot, each once."""
    wires = [wire for wire, ends in enumerate(ends_of(net)) if knot in ends]
    return is_row(value, len(wires)) and sorted(value) == wires


def faces_of(net, turns):
    """The faces, ascending, each one from its least step on."""
    behind = {}
    for wire, way in all_steps(net):
        knot = step_goal(net, (wire, way))
        turn = turns[knot]
        onward = turn[(turn.index(wire) + 1) % len(turn)]
        behind[wire, way] = (onward, 1 if net.wires[onward][0] == knot else -1)
    faces, met = [], {}
    for step in sorted(list(behind)):
        if step not in met:
            face = [step]
            while behind[face[-1]] != step:
                face.append(behind[face[-1]])
            met.update({gone: True for gone in face})
            faces.append(tuple(face))
    return faces


def face_of_steps(net, turns):
    """The dict from all steps to the indices of their faces."""
    return {step: at for at, face in enumerate(faces_of(net, turns)) for step in face}


def are_plane(net, turns):
    """Whether the knots, less the wires, and the faces make 2 in each component with wires."""
    faces = faces_of(net, turns)
    for together in components(net):
        wires = [wire for wire, (tail, _) in enumerate(ends_of(net)) if tail in together]
        own = [face for face in faces if face[0][0] in wires]
        if wires and len(together) - len(wires) + len(own) != 2:
            return False
    return True


def dual_of(net, turns):
    """The dual of a net that has one."""
    if not net.wires:
        return net
    faces = face_of_steps(net, turns)
    wires = [(faces[wire, 1], faces[wire, -1], transposed_form(rise)) for wire, (_, _, rise) in enumerate(net.wires)]
    return Net(len(faces_of(net, turns)), tuple(wires))


def dual_turns(net, turns):
    """The turns of the dual."""
    if not net.wires:
        return turns
    return tuple([tuple([wire for wire, _ in face]) for face in faces_of(net, turns)])


def do_hang(net, knots):
    """Whether the knots hang together by wires between them."""
    arcs = no_arcs(net.knots)
    for tail, head in ends_of(net):
        if tail in knots and head in knots:
            arcs[tail].append((head, None))
            arcs[head].append((tail, None))
    return len(ways_along(arcs, [knots[0]])) == len(knots)
