"""Rises put together: turned, moved, side by side, in a row, meeting, parted."""

from risenets.base.checks import check_number, is_row, is_tuple_of
from risenets.base.ranges import clamped, common, holds, opposites, sums
from risenets.errors import Refused, TooMany
from risenets.rise.rises import (
    FAR, MOST_CORNERS, check_rise, corners_in, other_kind, place_by, rise_by, row_of, size_of,
    span_across, span_of)


def turned(rise):
    """The same wire, told from its other end."""
    check_rise(rise)
    return within_limits(turned_form(rise))


def transposed(rise):
    """The rise with currents and tensions exchanged."""
    check_rise(rise)
    return within_limits(transposed_form(rise))


def moved(rise, right, up):
    """The rise moved to the right and up."""
    check_rise(rise)
    check_number(right)
    check_number(up)
    return within_limits(moved_form(rise, right, up))


def beside(one, other):
    """Both rises side by side."""
    check_rise(one)
    check_rise(other)
    if are_apart(one, other, "tensions"):
        raise Refused(("tensions",))
    return within_limits(side_by_side(one, other))


def in_row(one, other):
    """Both rises in a row."""
    check_rise(one)
    check_rise(other)
    first, second = transposed_form(one), transposed_form(other)
    if are_apart(first, second, "tensions"):
        raise Refused(("currents",))
    return within_limits(transposed_form(side_by_side(first, second)))


def meeting(one, other):
    """A point at which both rises meet, or a word that tells how they are apart."""
    check_rise(one)
    check_rise(other)
    point = meeting_point(one, other)
    if point is not None:
        return ("met", point[0], point[1])
    return ("apart", "tensions" if are_apart(one, other, "tensions") else "currents")


def is_meeting(one, other, value):
    """Whether the value is what meeting can tell."""
    check_rise(one)
    check_rise(other)
    if is_tuple_of(value, 2):
        return (value[0] == "apart" and value[1] in ("tensions", "currents")
                and are_apart(one, other, value[1]))
    if not is_tuple_of(value, 3) or value[0] != "met" or not is_row(value[1:], 2):
        return False
    _, current, tension = value
    return has_point(one, current, tension) and has_point(other, -current, tension)


def meetings(one, other):
    """All currents, and all tensions, at which both rises meet."""
    check_rise(one)
    check_rise(other)
    point = meeting_point(one, other)
    if point is None:
        raise Refused(("apart",))
    current, tension = point
    row, other_row = row_of(one), row_of(other)
    return (shared_currents(row, other_row, tension),
            common(span_across(row, "flat", current), span_across(other_row, "flat", -current)))


def parting(one, other):
    """A point on just one of both rises, None if they are equal."""
    check_rise(one)
    check_rise(other)
    return parting_by(one, other)


def is_parting(one, other, value):
    """Whether the value is a point on just one of both rises."""
    check_rise(one)
    check_rise(other)
    if not is_row(value, 2):
        return False
    return has_point(one, value[0], value[1]) != has_point(other, value[0], value[1])


def within_limits(rise):
    """The rise, refused if it has too many corners or too great integers."""
    if len(corners_in(rise)) > MOST_CORNERS:
        raise TooMany(MOST_CORNERS)
    if size_of(rise) > FAR:
        raise TooMany(FAR)
    return rise


def has_point(rise, current, tension):
    """Whether the point, its integers of any length, is on the rise."""
    return place_by(row_of(rise), current, tension) == "on"


def turned_form(rise):
    """What tells the turned rise."""
    word, told = rise
    if word in ("level", "plumb"):
        return (word, -told)
    last = row_of(rise)[-1][0]
    return (last, tuple([(-x, -y) for x, y in told[::-1]]))


def moved_form(rise, right, up):
    """What tells the moved rise."""
    word, told = rise
    if word == "level":
        return (word, told + up)
    if word == "plumb":
        return (word, told + right)
    return (word, tuple([(x + right, y + up) for x, y in told]))


def transposed_form(rise):
    """What tells the transposed rise."""
    word, told = rise
    if word in ("level", "plumb"):
        return ("plumb" if word == "level" else "level", told)
    return (other_kind(word), tuple([(y, x) for x, y in told]))


def side_by_side(one, other):
    """Both rises, with a tension in common, side by side, of any size."""
    points = []
    spans = current_sums(one, other)
    for tension, least, most in spans:
        points.extend([(end, tension) for end in (least, most) if end is not None])
    first = "flat" if spans[0][1] is None else "steep"
    last = "flat" if spans[-1][2] is None else "steep"
    # Where nothing has an end, the sum is a level, and any point of it tells it.
    return rise_by(first, points if points else [(0, spans[0][0])], last)


def current_sums(one, other):
    """The sums of the currents at each tension at which they can change."""
    row, other_row = row_of(one), row_of(other)
    found = []
    for tension in turning_tensions(row, other_row):
        least, most = sums(span_across(row, "steep", tension), span_across(other_row, "steep", tension))
        found.append((tension, least, most))
    return found


def turning_tensions(row, other_row):
    """The tensions of flat pieces that both rows have, ascending; at least one if any is common."""
    shared = common(span_of(row, "steep"), span_of(other_row, "steep"))
    if shared is None:
        return []
    flats = sorted(set([piece[1] for piece in row + other_row if piece[0] == "flat"]))
    inside = [tension for tension in flats if holds(shared, tension)]
    # Two plumbs have no flat piece; any tension tells all of them.
    return inside if inside else [clamped(shared, 0)]


def shared_currents(row, other_row, tension):
    """The currents of the one row whose opposites the other one has at the tension."""
    return common(span_across(row, "steep", tension), opposites(span_across(other_row, "steep", tension)))


def meeting_point(one, other):
    """A point at which both rises meet, None if there is none."""
    row, other_row = row_of(one), row_of(other)
    for tension in turning_tensions(row, other_row):
        shared = shared_currents(row, other_row, tension)
        if shared is not None:
            return (clamped(shared, 0), tension)
    return None


def are_apart(one, other, word):
    """Whether the rises are apart by the word."""
    row, other_row = row_of(one), row_of(other)
    if word == "tensions":
        return common(span_of(row, "steep"), span_of(other_row, "steep")) is None
    return common(span_of(row, "flat"), opposites(span_of(other_row, "flat"))) is None


def parting_by(one, other):
    """A point on just one of both rises, of any size, None if they are equal."""
    row, other_row = row_of(one), row_of(other)
    # Each of these points is on one of both rises: it has one place by both only if it is on both.
    for current, tension in telling_points(one) + telling_points(other):
        if place_by(row, current, tension) != place_by(other_row, current, tension):
            return (current, tension)
    return None


def telling_points(rise):
    """Points on the rise that tell its form: each corner, and those beside it."""
    word, told = rise
    if word == "level":
        return [(0, told), (1, told)]
    if word == "plumb":
        return [(told, 0), (told, 1)]
    row = row_of(rise)
    found = []
    for k in range(len(told)):
        found.append(told[k])
        found.append(beyond(told[k], row[k][0], -1))
        found.append(beyond(told[k], row[k + 1][0], 1))
    return found


def beyond(point, kind, way):
    """The point by one farther along a piece of the kind."""
    x, y = point
    return (x + way, y) if kind == "flat" else (x, y + way)
