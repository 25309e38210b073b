"""Wires drawn on a sphere so that none cross, or what bars it.

Wires are told by `ends`, a dict from their indices to pairs (tail, head). They are drawn block by block, a
block being the wires that are in loops with one another; faces are tuples of steps.
"""

from risenets.base.arcs import no_arcs, turned_steps, ways_along
from risenets.net.shapes import goal_of, leanest, start_of, steps_at, ways_of_hubs, wires_between


def drawn_turns(knots, ends):
    """Plane turns, as a list of wires for each knot; None if there are none."""
    turns = [[] for _ in range(knots)]
    for block in blocks_of(knots, ends):
        faces = drawn_faces(knots, block)
        if faces is None:
            return None
        # At a knot of several blocks they stand one behind the other.
        for knot, wires in turns_by(block, faces).items():
            turns[knot].extend(wires)
    return turns


def bars_of(knots, ends):
    """Hubs, and ways between them, of wires that cannot be drawn."""
    left = leanest(ends, lambda fewer: drawn_turns(knots, fewer) is None)
    hubs, ways = ways_of_hubs(left)
    if len(hubs) == 6:
        firsts = [hub for hub in hubs if (hubs[0], hub) not in ways]
        lasts = [hub for hub in hubs if (hubs[0], hub) in ways]
        hubs = firsts + lasts
    return tuple(hubs), tuple([ways[pair] for pair in hub_pairs(hubs)])


def hub_pairs(hubs):
    """The pairs of five or six hubs that have a way in bars, in their sequence."""
    if len(hubs) == 6:
        return [(first, last) for first in hubs[:3] for last in hubs[3:]]
    return [(hubs[i], hubs[j]) for i in range(len(hubs)) for j in range(i + 1, len(hubs))]


def blocks_of(knots, ends):
    """The blocks, each one as a dict like the ends."""
    left = dict(ends)
    found = []
    while left:
        tail, head = left[min(list(left))]
        block = {wire: ends[wire] for wire in wires_between(knots, ends, tail, head)}
        found.append(block)
        left = {wire: left[wire] for wire in left if wire not in block}
    return found


def drawn_faces(knots, block):
    """The faces of a block that is drawn, None if it cannot be.

    A loop is drawn first; then, one by one, ways through the lots that are left, each one into a face that has
    all contacts of its lot; lots that fit into the fewest faces come first.
    """
    faces = first_faces(knots, block)
    while sum([len(face) for face in faces]) < 2 * len(block):
        lots = lots_left(knots, block, faces)
        fitting = [[whole for whole in faces if has_all(block, whole, contacts)] for contacts, _ in lots]
        chosen = min(list(range(len(lots))), key=lambda k: len(fitting[k]))
        if not fitting[chosen]:
            return None
        face, way = fitting[chosen][0], lots[chosen][1]
        faces = [other for other in faces if other != face] + parted_face(block, face, way)
    return faces


def first_faces(knots, block):
    """Both faces of some loop of the block; the one face of a lone wire."""
    wire = min(list(block))
    if len(block) == 1:
        return [((wire, 1), (wire, -1))]
    tail, head = block[wire]
    arcs = arcs_of(knots, block, [other for other in block if other != wire], [])
    loop = ((wire, 1), *ways_along(arcs, [head])[tail])
    return [loop, turned_steps(loop)]


def arcs_of(knots, block, wires, stops):
    """The arcs of these wires, both ways, but for those that go from one of the stops."""
    arcs = no_arcs(knots)
    for wire in wires:
        for step in ((wire, 1), (wire, -1)):
            if start_of(block, step) not in stops:
                arcs[start_of(block, step)].append((goal_of(block, step), step))
    return arcs


def has_all(block, face, contacts):
    """Whether the face has all of the knots."""
    knots = [start_of(block, step) for step in face]
    return all([knot in knots for knot in contacts])


def lots_left(knots, block, faces):
    """The lots of wires that hang together without the knots that are drawn.

    Each one as a pair of its contacts, the knots of it that are drawn, and of a way through it that leads from
    one of them to another one.
    """
    done = [wire for face in faces for wire, _ in face]
    met = list(steps_at({wire: block[wire] for wire in done}))
    left = [wire for wire in block if wire not in done]
    found = []
    while left:
        lot = lot_with(knots, block, left, met)
        left = [wire for wire in left if wire not in lot]
        contacts = [knot for knot in steps_at({wire: block[wire] for wire in lot}) if knot in met]
        arcs = arcs_of(knots, block, lot, contacts[1:])
        found.append((contacts, ways_along(arcs, contacts[:1])[contacts[1]]))
    return found


def lot_with(knots, block, wires, met):
    """The lot of the first one of the wires, without ways through the knots that are met."""
    starts = [knot for knot in block[wires[0]] if knot not in met]
    reached = ways_along(arcs_of(knots, block, wires, met), starts)
    lot = [wire for wire in wires if any([knot in reached and knot not in met for knot in block[wire]])]
    return lot if lot else wires[:1]


def parted_face(block, face, way):
    """The two faces into which a way between two of its knots parts a face."""
    starts = [start_of(block, step) for step in face]
    first, last = starts.index(start_of(block, way[0])), starts.index(goal_of(block, way[-1]))
    # The face is told from the knot at which the way begins.
    told = face[first:] + face[:first]
    there = (last - first) % len(face)
    return [turned_steps(way) + told[:there], way + told[there:]]


def turns_by(block, faces):
    """The turns of all knots of a block: behind the wire of a step stands that of the next one of its face."""
    behind = {}
    for face in faces:
        for k, step in enumerate(face):
            behind[goal_of(block, step), step[0]] = face[(k + 1) % len(face)][0]
    turns = {}
    for knot, steps in steps_at(block).items():
        turn = [steps[0][0]]
        while behind[knot, turn[-1]] != turn[0]:
            turn.append(behind[knot, turn[-1]])
        turns[knot] = turn
    return turns
