"""Ranges of integers, some without an end."""

from risenets.base.checks import check_number, is_index, is_short, is_tuple_of, is_whole
from risenets.errors import InvalidOperation

MOST_SPANS = 100


def is_range(value):
    """Whether the value is a range."""
    if not is_tuple_of(value, 2):
        return False
    least, most = value
    if least is not None and not is_short(least):
        return False
    if most is not None and not is_short(most):
        return False
    return least is None or most is None or least <= most


def is_in(span, value):
    """Whether the value is an integer of the range."""
    check_span(span)
    return is_whole(value) and holds(span, value)


def nearest(span, number):
    """The number of the range that is nearest to this one."""
    check_span(span)
    check_number(number)
    return clamped(span, number)


def turned_range(span):
    """The range of the opposites."""
    check_span(span)
    return opposites(span)


def added_ranges(one, other):
    """The range of the sums."""
    check_span(one)
    check_span(other)
    return sums(one, other)


def less_range(one, other):
    """The range of the differences, a number of the one less one of the other."""
    check_span(one)
    check_span(other)
    return sums(one, opposites(other))


def shared_range(one, other):
    """What both ranges share, None if nothing."""
    check_span(one)
    check_span(other)
    return common(one, other)


def all_shared(spans):
    """What all ranges share, or two of them that are apart."""
    check_spans(spans)
    shared = common_of_all(spans)
    if shared is not None:
        return ("shared", shared)
    ends = [k for k in range(len(spans)) if spans[k][1] is not None]
    starts = [k for k in range(len(spans)) if spans[k][0] is not None]
    first = min(ends, key=lambda k: spans[k][1])
    second = max(starts, key=lambda k: spans[k][0])
    return ("apart", first, second)


def is_all_shared(spans, value):
    """Whether the value is what all ranges share, or two that are apart."""
    check_spans(spans)
    if is_tuple_of(value, 2):
        return value[0] == "shared" and is_range(value[1]) and value[1] == common_of_all(spans)
    if not is_tuple_of(value, 3) or value[0] != "apart":
        return False
    count = len(spans)
    if not is_index(value[1], count) or not is_index(value[2], count):
        return False
    return ends_below(spans[value[1]], spans[value[2]])


def check_span(value):
    """Refuse what is no range."""
    if not is_range(value):
        raise InvalidOperation("not a range")


def check_spans(value):
    """Refuse what is no tuple of 1 to 100 ranges."""
    if not isinstance(value, tuple) or not 1 <= len(value) <= MOST_SPANS:
        raise InvalidOperation("not a tuple of 1 to 100 ranges")
    for span in value:
        check_span(span)


# From here on spans may have integers of any length, as sums can be long.


def holds(span, number):
    """Whether the number is of the span."""
    least, most = span
    return (least is None or least <= number) and (most is None or number <= most)


def clamped(span, number):
    """The number of the span that is nearest to this one."""
    least, most = span
    if least is not None and number < least:
        return least
    if most is not None and number > most:
        return most
    return number


def opposites(span):
    """The span of the opposites."""
    least, most = span
    return (None if most is None else -most, None if least is None else -least)


def sums(one, other):
    """The span of the sums."""
    least = None if one[0] is None or other[0] is None else one[0] + other[0]
    most = None if one[1] is None or other[1] is None else one[1] + other[1]
    return (least, most)


def ends_below(one, other):
    """Whether the one span ends below the other one."""
    return one[1] is not None and other[0] is not None and one[1] < other[0]


def common(one, other):
    """What both spans share, None if nothing."""
    if ends_below(one, other) or ends_below(other, one):
        return None
    starts = [span[0] for span in (one, other) if span[0] is not None]
    ends = [span[1] for span in (one, other) if span[1] is not None]
    return (max(starts, default=None), min(ends, default=None))


def common_of_all(spans):
    """What all spans share, None if nothing."""
    shared = (None, None)
    for span in spans:
        shared = common(shared, span)
        if shared is None:
            return None
    return shared
