"""The search for a state, and what is told of one.

Wires are told by `ends`, a list of pairs (tail, head), with a row of pieces for each of them; integers may be
of any length.
"""

from risenets.base.ranges import clamped
from risenets.fit.falls import fitted, lowered, tensions_by
from risenets.fit.flows import led, too_much
from risenets.rise.rises import span_across, span_of


def settled(knots, ends, rows, feeds):
    """("state", currents, heights) with a state that bears the feeds, or a cut or a loop that fights."""
    word, told = fitted(knots, ends, [span_of(row, "steep") for row in rows])
    if word == "loop":
        return ("loop", told)
    return settled_from(knots, ends, rows, feeds, [0] * len(ends), told)


def settled_from(knots, ends, rows, feeds, near, start):
    """A state, or a cut that fights, searched from currents, and from heights whose tensions are those of the rows."""
    heights = start
    currents = [clamped(span, current) for span, current in zip(spans_at(ends, rows, heights), near)]
    while True:
        spans = spans_at(ends, rows, heights)
        currents, starts, _ = led(knots, ends, spans, currents, feeds)
        if not starts:
            return ("state", tuple(currents), tuple(heights))
        goals = lacking(knots, ends, currents, feeds)
        heights, reached, _ = lowered(knots, ends, ranges_at(rows, currents), heights, starts, goals)
        if heights is None:
            return ("cut", tuple([knot for knot in range(knots) if knot not in reached]))


def lacking(knots, ends, currents, feeds):
    """The knots from which more goes than comes."""
    return [knot for knot, more in enumerate(too_much(knots, ends, currents, feeds)) if more < 0]


def spans_at(ends, rows, heights):
    """The ranges of the currents along the tensions of the heights."""
    tensions = tensions_by(ends, heights)
    return [span_across(row, "steep", tension) for row, tension in zip(rows, tensions)]


def ranges_at(rows, currents):
    """The ranges of the tensions at the currents."""
    return [span_across(row, "flat", current) for row, current in zip(rows, currents)]
