"""Texts of rises, of nets, and of their answers."""

from risenets.base.checks import is_short
from risenets.errors import InvalidOperation, ParseError
from risenets.net.nets import Net, are_net_parts, check_net
from risenets.rise.rises import check_rise, is_rise
from risenets.state.states import is_answer

FIGURES = "0123456789"
# No integer that may be passed has more figures.
MOST_FIGURES = 60


def rise_text(rise):
    """The text of a rise."""
    check_rise(rise)
    return text_of_rise(rise)


def net_text(net):
    """The text of a net."""
    check_net(net)
    return "\n".join([f"net {net.knots}"] + [wire_text(wire) for wire in net.wires])


def answer_text(net, answer):
    """The text of an answer of the net."""
    check_net(net)
    if not is_short_answer(net, answer):
        raise InvalidOperation("not an answer of the net")
    return text_of_answer(answer)


def read_rise(value):
    """The rise that has the text."""
    words = words_of(value)
    rise = rise_of_words(words)
    if rise is None:
        raise ParseError(many_words_of_rise(words))
    return rise


def read_net(value):
    """The net that has the text."""
    rows = value.split("\n") if isinstance(value, str) else []
    net = None
    for at, row in enumerate(rows):
        longer = first_net(row) if at == 0 else net_and_row(net, row)
        if longer is None:
            raise ParseError(at)
        net = longer
    if net is None:
        raise ParseError(0)
    return net


def read_answer(net, value):
    """The answer of the net that has the text."""
    check_net(net)
    answer = answer_of_rows(value.split("\n")) if isinstance(value, str) else None
    if not is_short_answer(net, answer):
        raise ParseError(0)
    return answer


def text_of_rise(rise):
    """The text of a rise."""
    word, told = rise
    if word in ("level", "plumb"):
        return f"{word} {told}"
    return " ".join([word] + [f"{x},{y}" for x, y in told])


def wire_text(wire):
    """The row of a wire."""
    tail, head, rise = wire
    return f"{tail} {head} {text_of_rise(rise)}"


def text_of_answer(answer):
    """The text of an answer."""
    if answer[0] == "state":
        return "\n".join([row_text("currents", answer[1]), row_text("heights", answer[2])])
    if answer[0] == "cut":
        return row_text("cut", answer[1])
    return " ".join(["loop"] + [f"{wire}" if way == 1 else f"-{wire}" for wire, way in answer[1]])


def row_text(word, numbers):
    """A row of a word and of integers."""
    return " ".join([word] + [str(number) for number in numbers])


def is_short_answer(net, value):
    """Whether the value is an answer of the net, with integers that may be passed."""
    if not is_answer(net, value):
        return False
    return value[0] != "state" or all([is_short(number) for row in value[1:] for number in row])


def words_of(value):
    """The words of a string, none if one is empty, or if the value is no string."""
    words = value.split(" ") if isinstance(value, str) else []
    return [] if "" in words else words


def number_of(word):
    """The integer that has this text, None if there is none."""
    figures = word[1:] if word.startswith("-") else word
    if not figures or len(figures) > MOST_FIGURES or not all([figure in FIGURES for figure in figures]):
        return None
    return int(word) if str(int(word)) == word else None


def corner_of(word):
    """What a word can tell as a corner, None standing for what is no integer."""
    return tuple([number_of(part) for part in word.split(",")])


def rise_of_words(words):
    """The rise whose text has these words, None if there is none."""
    if len(words) < 2:
        return None
    told = tuple([corner_of(word) for word in words[1:]])
    if words[0] in ("level", "plumb"):
        told = number_of(words[1]) if len(words) == 2 else None
    rise = (words[0], told)
    return rise if is_rise(rise) else None


def many_words_of_rise(words):
    """How many first words are the first ones of the text of a rise, where all of them are none."""
    if not words or words[0] not in ("level", "plumb", "flat", "steep"):
        return 0
    # From the first corner on the text of a rise can end behind each word, so the end is found by halving.
    many, far = 1, len(words)
    while far - many > 1:
        middle = (many + far) // 2
        if rise_of_words(words[:middle]) is None:
            far = middle
        else:
            many = middle
    return many


def first_net(row):
    """The net without wires whose text is the row, None if there is none."""
    words = words_of(row)
    if len(words) != 2 or words[0] != "net":
        return None
    return made_net(number_of(words[1]), ())


def net_and_row(net, row):
    """The net with the wire of a further row, None if there is none."""
    words = words_of(row)
    if len(words) < 4:
        return None
    wire = (number_of(words[0]), number_of(words[1]), rise_of_words(words[2:]))
    return made_net(net.knots, (*net.wires, wire))


def made_net(knots, wires):
    """The net, None if there is no such one."""
    return Net(knots, wires) if are_net_parts(knots, wires) else None


def answer_of_rows(rows):
    """What the rows can tell as an answer, of any net; None if nothing."""
    words = [words_of(row) for row in rows]
    if [] in words:
        return None
    firsts = [row[0] for row in words]
    if firsts == ["currents", "heights"]:
        return ("state", *[tuple([number_of(word) for word in row[1:]]) for row in words])
    if firsts == ["cut"]:
        return ("cut", tuple([number_of(word) for word in words[0][1:]]))
    return ("loop", tuple([step_of(word) for word in words[0][1:]])) if firsts == ["loop"] else None


def step_of(word):
    """The step that has this text, None if there is none."""
    return (number_of(word[1:]), -1) if word.startswith("-") else (number_of(word), 1)
