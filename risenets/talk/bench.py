"""A bench: nets under names, with their answers, and edits that can be undone."""

from risenets.change.one import moved_net, net_with_rise, net_without
from risenets.ends.boxes import put_in
from risenets.ends.seen import check_apart
from risenets.errors import InvalidText, NothingToUndo, TooMany, UnknownName
from risenets.net.nets import Net, check_knot, check_net, check_wire
from risenets.state.states import is_answer, settled_net

MOST_NETS = 12
MOST_NAME = 8
LETTERS = "abcdefghijklmnopqrstuvwxyz"


class Bench:
    """Nets under names, at a place in a row of places; each one holds nets and the answers that are kept."""

    def __init__(self):
        self._places = [({}, {})]
        self._at = 0

    def put(self, name, net):
        """From now on the net has this name."""
        if not is_name(name):
            raise InvalidText("not a name of 1 to 8 letters")
        check_net(net)
        if name not in self and len(self) >= MOST_NETS:
            raise TooMany(MOST_NETS)
        self._go_on(name, net)

    def drop(self, name):
        """From now on the name stands for nothing."""
        self.net_of(name)
        nets, answers = self._places[self._at]
        self._go_to({other: nets[other] for other in nets if other != name},
                    {other: answers[other] for other in answers if other != name})

    def join(self, name, tail, head, rise):
        """One wire more, behind the others."""
        net = self.net_of(name)
        check_knot(net, tail)
        check_knot(net, head)
        self._go_on(name, Net(net.knots, (*net.wires, (tail, head, rise))))

    def cut(self, name, wire):
        """One wire less."""
        net = self.net_of(name)
        check_wire(net, wire)
        self._go_on(name, net_without(net, wire))

    def turn_to(self, name, wire, rise):
        """This rise for the wire."""
        net = self.net_of(name)
        check_wire(net, wire)
        self._go_on(name, net_with_rise(net, wire, rise))

    def move(self, name, wire, right, up):
        """The wire's rise moved."""
        self._go_on(name, moved_net(self.net_of(name), wire, right, up))

    def box_in(self, name, wire, other, start, goal):
        """Another net, with two of its knots, put in for the wire."""
        net = self.net_of(name)
        check_wire(net, wire)
        inner = self.net_of(other)
        check_knot(inner, start)
        check_knot(inner, goal)
        check_apart(start, goal)
        self._go_on(name, put_in(net, wire, (inner, start, goal)))

    def undo(self):
        """Back to the place ahead."""
        if self._at == 0:
            raise NothingToUndo(1)
        self._at -= 1

    def redo(self):
        """On to the place behind."""
        if self._at + 1 == len(self._places):
            raise NothingToUndo(-1)
        self._at += 1

    def net_of(self, name):
        """The net that has the name."""
        if name not in self:
            raise UnknownName(name)
        return self._places[self._at][0][name]

    def answer(self, name):
        """The answer of the net, which is kept."""
        net = self.net_of(name)
        told = self.last(name)
        if told is None:
            told = settled_net(net)
            self._places[self._at][1][name] = told
        return told

    def last(self, name):
        """The kept answer, None if it is none for the net as it is now."""
        net = self.net_of(name)
        kept = self._places[self._at][1].get(name, None)
        return kept if is_answer(net, kept) else None

    @property
    def names(self):
        """The names, ascending."""
        return tuple(sorted(list(self._places[self._at][0])))

    def _go_on(self, name, net):
        """Lead to a new place at which the net has the name."""
        nets, answers = self._places[self._at]
        self._go_to({**nets, name: net}, dict(answers))

    def _go_to(self, nets, answers):
        """Lead to a new place; what could be redone is gone."""
        self._places = self._places[:self._at + 1] + [(nets, answers)]
        self._at += 1

    def __contains__(self, value):
        return isinstance(value, str) and value in self._places[self._at][0]

    def __len__(self):
        return len(self._places[self._at][0])

    def __eq__(self, value):
        return isinstance(value, Bench) and self._places[self._at][0] == value._places[value._at][0]

    def __str__(self):
        return f"bench of {len(self)} nets, {self._at} steps"


def is_name(value):
    """Whether the value is a name."""
    if not isinstance(value, str) or not 1 <= len(value) <= MOST_NAME:
        return False
    return all([letter in LETTERS for letter in value])
