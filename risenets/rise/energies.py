"""Energies of rises: areas under and beside them, and the gaps of pairs."""

from risenets.base.checks import check_number
from risenets.base.ranges import clamped, holds
from risenets.rise.joins import transposed_form
from risenets.rise.rises import check_rise, corners_in, row_of, span_across, span_of


def anchor_of(rise):
    """The point from which areas are reckoned."""
    check_rise(rise)
    return anchor_by(rise)


def area_under(rise, current):
    """The area under the rise up to a current, None out of the range."""
    check_rise(rise)
    check_number(current)
    return area_by(rise, current)


def area_beside(rise, tension):
    """The area beside the rise up to a tension, None out of the range."""
    check_rise(rise)
    check_number(tension)
    return area_by(transposed_form(rise), tension)


def gap_of(rise, current, tension):
    """By how much the pair misses the rise, None if a part is out of its range."""
    check_rise(rise)
    check_number(current)
    check_number(tension)
    return gap_by(rise, current, tension)


def work_between(rise, current, other):
    """What the area grows by from the one current to the other, None out of the range."""
    check_rise(rise)
    check_number(current)
    check_number(other)
    start, end = area_by(rise, current), area_by(rise, other)
    if start is None or end is None:
        return None
    return end - start


def lowest_up(rise):
    """The least area and the currents that have it, None if it falls without end."""
    check_rise(rise)
    span = span_across(row_of(rise), "steep", 0)
    if span is None:
        return None
    return (area_by(rise, clamped(span, 0)), span)


# From here on currents and tensions may be of any length.


def anchor_by(rise):
    """The first corner, or the point of a straight rise that stands at 0."""
    word, told = rise
    if word == "level":
        return (0, told)
    if word == "plumb":
        return (told, 0)
    return corners_in(rise)[0]


def area_by(rise, current):
    """The area under the rise from its anchor to a current, None out of the range."""
    row = row_of(rise)
    if not holds(span_of(row, "flat"), current):
        return None
    start = anchor_by(rise)[0]
    low, high = min(start, current), max(start, current)
    area = sum([tension * (clamped((least, most), high) - clamped((least, most), low))
                for kind, tension, least, most in row if kind == "flat"])
    return area if start <= current else -area


def gap_by(rise, current, tension):
    """The gap of a pair, None if a part is out of its range."""
    up, down = area_by(rise, current), area_by(transposed_form(rise), tension)
    if up is None or down is None:
        return None
    x, y = anchor_by(rise)
    return up + down + x * y - current * tension
