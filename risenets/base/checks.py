"""What plain values are: integers, rows of integers, indices."""

from risenets.errors import InvalidNumber

TOO_LONG = 10 ** 60


def is_whole(value):
    """Whether the value is an integer, of any length."""
    return isinstance(value, int) and not isinstance(value, bool)


def is_short(value):
    """Whether the value is an integer that may be passed."""
    return is_whole(value) and abs(value) < TOO_LONG


def check_number(value):
    """Refuse what is no integer that may be passed."""
    if not is_short(value):
        raise InvalidNumber(value)


def is_index(value, count):
    """Whether the value is one of the indices 0, 1, .., so many in all."""
    return is_whole(value) and 0 <= value < count


def is_row(value, count):
    """Whether the value is a tuple of so many integers, of any length."""
    return is_tuple_of(value, count) and all([is_whole(item) for item in value])


def is_short_row(value, count):
    """Whether the value is a tuple of so many integers that may be passed."""
    return is_tuple_of(value, count) and all([is_short(item) for item in value])


def is_tuple_of(value, count):
    """Whether the value is a tuple of so many items."""
    return isinstance(value, tuple) and len(value) == count


def ascends(row):
    """Whether each item of the row is greater than the one ahead."""
    return all([row[k] < row[k + 1] for k in range(len(row) - 1)])


def is_same(value, wanted):
    """Whether both are equal, True not being 1, where the wanted one is made of tuples, strings and integers."""
    if isinstance(wanted, tuple):
        return is_tuple_of(value, len(wanted)) and all([is_same(value[k], wanted[k]) for k in range(len(wanted))])
    return not isinstance(value, bool) and value == wanted
