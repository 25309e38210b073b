"""Tanks between the knots of a net and the ground, whose levels run to rest."""

from risenets.base.checks import check_number, is_index, is_row, is_short_row, is_tuple_of, is_whole
from risenets.base.ranges import holds
from risenets.errors import InvalidCurrents, InvalidNumber, InvalidOperation, InvalidTanks
from risenets.fit.currents import no_feeds
from risenets.fit.falls import fitted
from risenets.fit.flows import led, some_within
from risenets.fit.heights import does_bar
from risenets.net.nets import MOST_TURNS, MOST_WIRES, Net, check_net, components, ends_of, rows_of
from risenets.rise.energies import area_by
from risenets.rise.joins import has_point, moved_form
from risenets.rise.rises import corners_in, is_rise, row_of, size_of, span_across, span_of
from risenets.state.search import ranges_at, settled_from, spans_at
from risenets.state.states import does_rest

MOST_TANKS = 6
MOST_LEVEL = 10 ** 10
MOST_TICKS = 1000
GROUND = 0


class Tanks:
    """A net with tanks (knot, rise, level)."""

    def __init__(self, net, tanks):
        check_net(net)
        if not isinstance(tanks, tuple) or not 1 <= len(tanks) <= MOST_TANKS:
            raise InvalidTanks("not a tuple of 1 to 6 tanks")
        if not all([is_tank(net, tank) for tank in tanks]):
            raise InvalidTanks("not a tank at a knot of the net")
        if not all([has_point(rise, 0, 0) for _, _, rise in net.wires]):
            raise InvalidOperation("a wire that is not passive")
        if len(net) + len(tanks) > MOST_WIRES:
            raise InvalidOperation("more than 24 wires and tanks")
        self._net = net
        self._tanks = tanks

    @property
    def net(self):
        """The net."""
        return self._net

    @property
    def tanks(self):
        """The tuple of the tanks."""
        return self._tanks

    @property
    def levels(self):
        """The tuple of the levels."""
        return levels_of(self._tanks)

    def joined(self):
        """The net with a wire for each tank."""
        moved = [(knot, GROUND, moved_form(rise, -level, 0)) for knot, rise, level in self._tanks]
        return Net(self._net.knots, (*self._net.wires, *moved))

    def stored(self):
        """What is stored in all tanks."""
        return sum([stored_in(rise, level) for _, rise, level in self._tanks])

    def sums(self):
        """The sums of the levels in the components that have not the ground, by their least knots."""
        found = {}
        for together in components(self._net):
            levels = [level for knot, _, level in self._tanks if knot in together]
            if levels and GROUND not in together:
                found[together[0]] = sum(levels)
        return found

    def rest_or_loop(self):
        """Heights that show that the tanks rest, or a loop that bars it."""
        return rest_or_bar(self._net, self._tanks, self.levels)

    def is_rest_or_loop(self, value):
        """Whether the value is what rest_or_loop can tell."""
        if not is_tuple_of(value, 2):
            return False
        net, (word, told) = self.joined(), value
        still = (0,) * len(net)
        if word == "rest":
            return does_rest(net, (still, told), no_feeds(net))
        return word == "loop" and does_bar(net, ranges_at(rows_of(net), still), told)

    def tick(self):
        """A state of the joined net, of zero currents if the tanks rest."""
        return state_of_tick(self._net, self._tanks, self.levels, still_state(self._net, self._tanks))

    def is_tick(self, value):
        """Whether the value is what tick can tell."""
        net = self.joined()
        if not does_rest(net, value, no_feeds(net)):
            return False
        return not any(value[0]) or not do_rest(self._net, self._tanks, self.levels)

    def taken(self, currents):
        """What the wires of the net take, None if one has no such current."""
        if not is_short_row(currents, len(self._net) + len(self._tanks)):
            raise InvalidCurrents("not an integer for each wire of the joined net")
        shares = [taken_by(rise, currents[wire]) for wire, (_, _, rise) in enumerate(self._net.wires)]
        return None if None in shares else sum(shares)

    def filled(self, levels):
        """Tanks with other levels."""
        if not is_tuple_of(levels, len(self._tanks)):
            raise InvalidTanks("not a level for each tank")
        return Tanks(self._net, tuple([(knot, rise, level) for (knot, rise, _), level in zip(self._tanks, levels)]))

    def run(self, most):
        """The rows of levels from tick to tick, up to rest, or so many ticks."""
        check_ticks(most)
        rows, state = [self.levels], still_state(self._net, self._tanks)
        while len(rows) <= most and not do_rest(self._net, self._tanks, rows[-1]):
            state = state_of_tick(self._net, self._tanks, rows[-1], state)
            rows.append(levels_behind(rows[-1], state[0][len(self._net):]))
        return tuple(rows)

    def is_run(self, most, value):
        """Whether the value is what run can tell."""
        check_ticks(most)
        if not isinstance(value, tuple) or not 1 <= len(value) <= most + 1:
            return False
        if not all([is_row(row, len(self._tanks)) for row in value]) or value[0] != self.levels:
            return False
        state = still_state(self._net, self._tanks)
        for ahead, behind in zip(value[:-1], value[1:]):
            if do_rest(self._net, self._tanks, ahead):
                return False
            state = state_of_tick(self._net, self._tanks, ahead, state)
            if not do_lead(self._net, self._tanks, ahead, behind, state[1]):
                return False
        return len(value) == most + 1 or do_rest(self._net, self._tanks, value[-1])

    def __len__(self):
        return len(self._tanks)

    def __eq__(self, value):
        return isinstance(value, Tanks) and self._net == value._net and self._tanks == value._tanks

    def __str__(self):
        return f"{len(self._tanks)} tanks, {self.stored()} stored"


def check_ticks(value):
    """Refuse what is no number of ticks."""
    check_number(value)
    if not 0 <= value <= MOST_TICKS:
        raise InvalidNumber(value)


def is_tank(net, value):
    """Whether the value is a tank at a knot of the net."""
    if not is_tuple_of(value, 3):
        return False
    knot, rise, level = value
    if not is_index(knot, net.knots) or knot == GROUND or not is_rise(rise):
        return False
    if len(corners_in(rise)) > MOST_TURNS or size_of(rise) > MOST_LEVEL:
        return False
    if not is_whole(level) or abs(level) > MOST_LEVEL:
        return False
    row = row_of(rise)
    return holds(span_of(row, "steep"), 0) and holds(span_of(row, "flat"), level)


# From here on levels may be of any length.


def levels_of(tanks):
    """The levels of the tanks."""
    return tuple([level for _, _, level in tanks])


def stored_in(rise, level):
    """What a tank with this rise has stored at a level."""
    lowest = span_across(row_of(rise), "steep", 0)
    # Along the tension 0 nothing is stored; one of both ends is told, or any current is.
    ends = [end for end in lowest if end is not None]
    return area_by(rise, level) - area_by(rise, ends[0] if ends else 0)


def taken_by(rise, current):
    """What a passive wire with this rise takes at a current, None if it has no such current."""
    area = area_by(rise, current)
    return None if area is None else area - area_by(rise, 0)


def joined_ends(net, tanks):
    """The ends of the wires of the joined net."""
    return ends_of(net) + [(knot, GROUND) for knot, _, _ in tanks]


def joined_rows(net, tanks, levels):
    """The rows of the rises of the joined net, the tanks having these levels."""
    return rows_of(net) + [row_of(moved_form(rise, -level, 0)) for (_, rise, _), level in zip(tanks, levels)]


def rest_or_bar(net, tanks, levels):
    """("rest", heights) with these levels, or ("loop", steps) with a loop that bars it."""
    rows = joined_rows(net, tanks, levels)
    word, told = fitted(net.knots, joined_ends(net, tanks), ranges_at(rows, [0] * len(rows)))
    return ("rest" if word == "heights" else "loop", tuple(told))


def do_rest(net, tanks, levels):
    """Whether the tanks rest with these levels."""
    return rest_or_bar(net, tanks, levels)[0] == "rest"


def still_state(net, tanks):
    """Zero currents and zero heights: they are within all ranges, whatever the levels are."""
    return ((0,) * (len(net) + len(tanks)), no_feeds(net))


def state_of_tick(net, tanks, levels, near):
    """A state of the joined net with these levels, of zero currents if the tanks rest; the near one is for speed."""
    word, told = rest_or_bar(net, tanks, levels)
    if word == "rest":
        return ((0,) * (len(net) + len(tanks)), told)
    ends, rows = joined_ends(net, tanks), joined_rows(net, tanks, levels)
    return settled_from(net.knots, ends, rows, no_feeds(net), near[0], near[1])[1:]


def levels_behind(levels, currents):
    """The levels grown by the currents."""
    return tuple([level + current for level, current in zip(levels, currents)])


def do_lead(net, tanks, ahead, behind, heights):
    """Whether some tick leads from the one row of levels to the other one, by the heights of a state.

    All states have the currents that add up within the spans at the tensions of one state: those of the tanks
    are told, and the others may be led.
    """
    ends, count = joined_ends(net, tanks), len(net)
    spans = spans_at(ends, joined_rows(net, tanks, ahead), heights)
    grown = [level - other for level, other in zip(behind, ahead)]
    if not all([holds(span, current) for span, current in zip(spans[count:], grown)]):
        return False
    spans = spans[:count] + [(current, current) for current in grown]
    return not led(net.knots, ends, spans, some_within(spans), no_feeds(net))[1]
