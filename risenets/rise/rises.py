"""Rises: staircases of flat and steep pieces that go on without end both ways."""

from risenets.base.checks import check_number, is_row, is_tuple_of, is_whole
from risenets.base.ranges import clamped, holds
from risenets.errors import InvalidOperation, InvalidRise, TooMany, UnknownName

MOST_CORNERS = 400
FAR = 10 ** 18
MOST_POINTS = 1000


def is_rise(value):
    """Whether the value is a rise."""
    if not is_tuple_of(value, 2):
        return False
    word, told = value
    if word in ("level", "plumb"):
        return is_whole(told) and abs(told) <= FAR
    return word in ("flat", "steep") and are_corners(word, told)


def pieces(rise):
    """The pieces of the rise, in sequence."""
    check_rise(rise)
    return row_of(rise)


def currents_of(rise):
    """The least and the greatest current of the points on the rise."""
    check_rise(rise)
    return span_of(row_of(rise), "flat")


def tensions_of(rise):
    """The least and the greatest tension of the points on the rise."""
    check_rise(rise)
    return span_of(row_of(rise), "steep")


def tensions_at(rise, current):
    """The least and the greatest tension at a current, None if there is none."""
    check_rise(rise)
    check_number(current)
    return span_across(row_of(rise), "flat", current)


def currents_at(rise, tension):
    """The least and the greatest current along a tension, None if there is none."""
    check_rise(rise)
    check_number(tension)
    return span_across(row_of(rise), "steep", tension)


def is_on(rise, current, tension):
    """Whether the point is on the rise."""
    return place_of(rise, current, tension) == "on"


def place_of(rise, current, tension):
    """Whether the point is on, above or below the rise."""
    check_rise(rise)
    check_number(current)
    check_number(tension)
    return place_by(row_of(rise), current, tension)


def crossing(rise, current, tension):
    """A point on the rise that crosses this one, None if this one is on the rise."""
    place = place_of(rise, current, tension)
    if place == "on":
        return None
    row = row_of(rise)
    if place == "above":
        return point_right_of(row, current, tension)
    return point_left_of(row, current, tension)


def is_crossing(rise, current, tension, value):
    """Whether the value is a point on the rise that crosses this one."""
    check_rise(rise)
    check_number(current)
    check_number(tension)
    if not is_row(value, 2) or place_by(row_of(rise), value[0], value[1]) != "on":
        return False
    right, up = value[0] - current, value[1] - tension
    return (right > 0 and up < 0) or (right < 0 and up > 0)


def rise_of(first, points, last):
    """The rise that has all points, led to by the one kind and left by the other one."""
    check_kind(first)
    check_points(points)
    check_kind(last)
    rise = rise_by(first, points, last)
    if len(corners_in(rise)) > MOST_CORNERS:
        raise TooMany(MOST_CORNERS)
    return rise


def check_rise(value):
    """Refuse what is no rise."""
    if not is_rise(value):
        raise InvalidRise("not a rise")


def check_kind(value):
    """Refuse what is no kind of pieces."""
    if value not in ("flat", "steep"):
        raise UnknownName(value)


def check_points(value):
    """Refuse what is no row of points, each one led to by a piece, or the same again."""
    if not isinstance(value, tuple) or not 1 <= len(value) <= MOST_POINTS:
        raise InvalidOperation("not a tuple of 1 to 1,000 points")
    if not all([is_far_point(point) for point in value]):
        raise InvalidOperation("not a pair of integers")
    for k in range(len(value) - 1):
        if value[k] != value[k + 1] and kind_between(value[k], value[k + 1]) is None:
            raise InvalidOperation("not a row of points")


def is_far_point(value):
    """Whether the value is a point that can be a corner."""
    return is_row(value, 2) and abs(value[0]) <= FAR and abs(value[1]) <= FAR


def are_corners(first, value):
    """Whether the value is the corners of a rise with this first kind."""
    if not isinstance(value, tuple) or not 1 <= len(value) <= MOST_CORNERS:
        return False
    if not all([is_far_point(point) for point in value]):
        return False
    kind = first
    for k in range(len(value) - 1):
        kind = other_kind(kind)
        if kind_between(value[k], value[k + 1]) != kind:
            return False
    return True


def other_kind(kind):
    """The kind that comes in turn."""
    return "steep" if kind == "flat" else "flat"


def kind_between(start, end):
    """The kind of a piece from the one point to the other, None if no piece leads there."""
    if start[1] == end[1] and start[0] < end[0]:
        return "flat"
    if start[0] == end[0] and start[1] < end[1]:
        return "steep"
    return None


# From here on rises, and rows of pieces, may have more corners and greater integers.


def row_of(rise):
    """The row of the pieces."""
    word, told = rise
    if word == "level":
        return (("flat", told, None, None),)
    if word == "plumb":
        return (("steep", told, None, None),)
    kind = word
    row = [piece_between(kind, None, told[0])]
    for k in range(len(told)):
        kind = other_kind(kind)
        row.append(piece_between(kind, told[k], told[k + 1] if k + 1 < len(told) else None))
    return tuple(row)


def piece_between(kind, start, end):
    """The piece between two corners, one of which may be missing."""
    along, across = (0, 1) if kind == "flat" else (1, 0)
    place = end[across] if start is None else start[across]
    least = None if start is None else start[along]
    most = None if end is None else end[along]
    return (kind, place, least, most)


def span_of(row, along):
    """All that a row of pieces has in the direction of the kind `along`."""
    least = None if row[0][0] == along else row[0][1]
    most = None if row[-1][0] == along else row[-1][1]
    return (least, most)


def span_across(row, along, number):
    """What a row of pieces has across a number in the direction of the kind `along`."""
    start = first_not_below(row, along, number)
    # At a corner two pieces have the number, or three.
    inside = [piece for piece in row[start:start + 3] if holds(extent_of(piece, along), number)]
    if not inside:
        return None
    across = other_kind(along)
    return (extent_of(inside[0], across)[0], extent_of(inside[-1], across)[1])


def first_not_below(row, along, number):
    """The index of the first piece that does not end below the number, the length of the row if all do."""
    start, end = 0, len(row)
    while start < end:
        middle = (start + end) // 2
        if holds((None, extent_of(row[middle], along)[1]), number):
            end = middle
        else:
            start = middle + 1
    return start


def extent_of(piece, along):
    """All that a piece has in the direction of the kind `along`."""
    kind, place, least, most = piece
    return (least, most) if kind == along else (place, place)


def place_by(row, current, tension):
    """The place of a point by a row of pieces."""
    span = span_across(row, "flat", current)
    if span is None:
        least = span_of(row, "flat")[0]
        return "above" if least is not None and current < least else "below"
    if holds(span, tension):
        return "on"
    return "below" if holds((None, span[1]), tension) else "above"


def point_right_of(row, current, tension):
    """A point with a greater current and a lesser tension, for a point above the row."""
    span = span_across(row, "flat", current)
    if span is not None:
        return (current + 1, span[1])
    _, place, least, most = row[0]
    return (place, clamped((least, most), tension - 1))


def point_left_of(row, current, tension):
    """A point with a lesser current and a greater tension, for a point below the row."""
    span = span_across(row, "flat", current)
    if span is not None:
        return (current - 1, span[0])
    _, place, least, most = row[-1]
    return (place, clamped((least, most), tension + 1))


def rise_by(first, points, last):
    """The rise of a row of points, led to by the one kind and left by the other one."""
    corners = []
    kind = first
    for k in range(len(points) - 1):
        step = kind_between(points[k], points[k + 1])
        if step is not None and step != kind:
            corners.append(points[k])
            kind = step
    if last != kind:
        corners.append(points[-1])
    if corners:
        return (first, tuple(corners))
    if first == "flat":
        return ("level", points[0][1])
    return ("plumb", points[0][0])


def corners_in(rise):
    """The tuple of the corners, none for a straight rise."""
    return () if rise[0] in ("level", "plumb") else rise[1]


def size_of(rise):
    """The size of the greatest integer by which the rise is told."""
    if rise[0] in ("level", "plumb"):
        return abs(rise[1])
    return max([max(abs(x), abs(y)) for x, y in rise[1]])
