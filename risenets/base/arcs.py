"""Arcs between knots, and ways along them.

Arcs are told by a list that has for each knot the list of what goes from it: tuples that begin with the
knot to which the arc leads, and with the step that it stands for; a length may follow.
"""


def no_arcs(knots):
    """An empty list of arcs for each knot."""
    return [[] for _ in range(knots)]


def ways_along(arcs, starts):
    """A shortest way, as a tuple of steps, to each knot that is reached; nearer knots stand ahead."""
    ways = {knot: () for knot in starts}
    queue = list(starts)
    at = 0
    while at < len(queue):
        knot = queue[at]
        at += 1
        for goal, step in arcs[knot]:
            if goal not in ways:
                ways[goal] = (*ways[knot], step)
                queue.append(goal)
    return ways


def least_lengths(arcs, starts):
    """The least length of a way from some start to each knot that is reached, and such a way.

    The pair of a dict of the lengths and one of the ways; (None, steps) with a loop of a length below 0
    if there is one.
    """
    lengths = {knot: 0 for knot in starts}
    # Each way is told with the knot from which each step goes, so that a knot met again is seen.
    ways = {knot: () for knot in starts}
    queue = list(starts)
    at = 0
    while at < len(queue):
        knot = queue[at]
        at += 1
        for goal, step, length in arcs[knot]:
            far = lengths[knot] + length
            if goal in lengths and lengths[goal] <= far:
                continue
            way = (*ways[knot], (knot, step))
            gone = [start for start, _ in way]
            if goal in gone:
                return None, steps_in(way[gone.index(goal):])
            lengths[goal], ways[goal] = far, way
            queue.append(goal)
    return lengths, {knot: steps_in(ways[knot]) for knot in ways}


def steps_in(way):
    """The steps of a way that is told with its knots."""
    return tuple([step for _, step in way])


def turned_arcs(arcs):
    """The same arcs, gone back."""
    back = no_arcs(len(arcs))
    for start in range(len(arcs)):
        for goal, (wire, way), length in arcs[start]:
            back[goal].append((start, (wire, -way), length))
    return back


def turned_steps(steps):
    """The same steps, gone back."""
    return tuple([(wire, -way) for wire, way in steps[::-1]])
