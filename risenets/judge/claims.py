"""Claims about nets, boxes, readings and tanks, each with its opposite, and the papers that show them."""

from risenets.base.checks import is_index, is_row, is_short, is_tuple_of, is_whole
from risenets.ends.boxes import alike_by, is_box
from risenets.ends.seen import is_seen_paper, seen_paper
from risenets.errors import InvalidOperation
from risenets.net.nets import Net, currents_by
from risenets.plane.faces import is_bars, is_plane, is_turns, turns_or_bars
from risenets.rise.joins import has_point
from risenets.state.box import furthest_current, furthest_height, is_current_paper, is_height_paper, is_rest
from risenets.state.states import does_fight, settled_net
from risenets.time.tanks import Tanks
from risenets.told.readings import agreement, is_agreement, is_readings

OPPOSITES = {
    "state": "fight", "reaches": "short", "higher": "lower", "alike": "parted", "plane": "barred", "agree": "cross",
    "rest": "move", "fight": "state", "short": "reaches", "lower": "higher", "parted": "alike", "barred": "plane",
    "cross": "agree", "move": "rest"}


def is_claim(value):
    """Whether the value is a claim."""
    if not isinstance(value, tuple) or not value or not isinstance(value[0], str):
        return False
    word, told = value[0], value[1:]
    if word in ("state", "fight", "plane", "barred"):
        return len(told) == 1 and isinstance(told[0], Net)
    if word in ("agree", "cross"):
        return len(told) == 1 and is_readings(told[0])
    if word in ("rest", "move"):
        return len(told) == 1 and isinstance(told[0], Tanks)
    if word in ("alike", "parted"):
        return len(told) == 2 and is_box(told[0]) and is_box(told[1])
    if len(told) != 4 or not isinstance(told[0], Net) or not is_short(told[3]):
        return False
    return is_step_claim(word, told) or is_pair_claim(word, told)


def opposite(claim):
    """The opposite of a claim."""
    check_claim(claim)
    return opposite_of(claim)


def takes(claim, paper):
    """Whether the paper is one for the claim: nothing is searched for."""
    check_claim(claim)
    word, subject = claim[:2]
    if word in ("state", "fight"):
        return is_rest(subject, paper) if word == "state" else does_fight(subject, paper)
    if word in ("reaches", "short"):
        return is_current_shown(claim, paper)
    if word in ("higher", "lower"):
        return is_height_shown(claim, paper)
    if word in ("alike", "parted"):
        return are_boxes_shown(claim, paper)
    if word in ("plane", "barred"):
        return is_drawing_shown(claim, paper)
    if word in ("agree", "cross"):
        return is_agreement_shown(claim, paper)
    return subject.is_rest_or_loop(("rest" if word == "rest" else "loop", paper))


def answered(claim):
    """The claim or its opposite, with a paper that is taken for it."""
    check_claim(claim)
    word, subject = claim[:2]
    if word in ("state", "fight"):
        told = settled_net(subject)
        return either(claim, "state", told[0] == "state", told[1:] if told[0] == "state" else told)
    if word in ("reaches", "short"):
        return answered_current(claim)
    if word in ("higher", "lower"):
        return answered_height(claim)
    if word in ("alike", "parted"):
        return answered_boxes(claim)
    if word in ("plane", "barred"):
        told = turns_or_bars(subject)
        return either(claim, "plane", told[0] == "turns", told[1] if told[0] == "turns" else told[1:])
    if word in ("agree", "cross"):
        told = agreement(subject)
        return either(claim, "agree", told[0] == "rise", told[1] if told[0] == "rise" else told[1:])
    told = subject.rest_or_loop()
    return either(claim, "rest", told[0] == "rest", told[1])


def check_claim(value):
    """Refuse what is no claim."""
    if not is_claim(value):
        raise InvalidOperation("not a claim")


def is_step_claim(word, told):
    """Whether these are the word and the parts of a claim about a current, its net and number being right."""
    net, wire, way, _ = told
    return word in ("reaches", "short") and is_index(wire, len(net)) and is_whole(way) and way in (1, -1)


def is_pair_claim(word, told):
    """Whether these are the word and the parts of a claim about heights, its net and number being right."""
    net, knot, other, _ = told
    return word in ("higher", "lower") and is_index(knot, net.knots) and is_index(other, net.knots) and knot != other


def opposite_of(claim):
    """The opposite of a claim."""
    return (OPPOSITES[claim[0]], *claim[1:])


def either(claim, word, is_true, paper):
    """The claim of this word if it is true, else its opposite, with the paper."""
    own = claim if claim[0] == word else opposite_of(claim)
    return (own if is_true else opposite_of(own), paper)


# What shows a claim, or its opposite.


def is_current_shown(claim, paper):
    """Whether the paper shows how far a current goes."""
    word, net, wire, way, number = claim
    if word == "reaches":
        return is_rest(net, paper) and way * paper[0][wire] >= way * number
    return does_fight(net, paper) or (is_current_paper(net, wire, way, paper) and way * paper[1] < way * number)


def is_height_shown(claim, paper):
    """Whether the paper shows how far two heights are apart."""
    word, net, knot, other, number = claim
    if word == "higher":
        return is_rest(net, paper) and paper[1][knot] - paper[1][other] >= number
    return does_fight(net, paper) or (is_height_paper(net, knot, other, paper) and paper[1] < number)


def are_boxes_shown(claim, paper):
    """Whether the paper shows that two boxes are alike, or parted."""
    word, one, other = claim
    if not is_tuple_of(paper, 2 if word == "alike" else 5):
        return False
    if not is_box_shown(one, paper[0]) or not is_box_shown(other, paper[1]):
        return False
    rises = [rise_of_paper(paper[0]), rise_of_paper(paper[1])]
    if word == "alike":
        return rises[0] == rises[1]
    if not is_row(paper[2:], 3) or paper[2] not in (0, 1):
        return False
    return are_parted_at(rises[paper[2]], rises[1 - paper[2]], paper[3], paper[4])


def is_box_shown(box, paper):
    """Whether the paper shows what the box is seen as."""
    net, start, goal = box
    return is_seen_paper(net, start, goal, paper)


def are_parted_at(one, other, current, tension):
    """Whether the point is on the one of two rises, None for a fight, and not on the other one."""
    if one is None or not has_point(one, current, tension):
        return False
    return other is None or not has_point(other, current, tension)


def rise_of_paper(paper):
    """The rise that a paper of a box shows, None for a fight."""
    return paper[1] if paper[0] == "rise" else None


def is_drawing_shown(claim, paper):
    """Whether the paper shows that a net is plane, or barred."""
    word, net = claim
    if word == "barred":
        return is_bars(net, paper)
    return is_turns(net, paper) and is_plane(net, paper)


def is_agreement_shown(claim, paper):
    """Whether the paper shows that readings agree, or that two of them cross."""
    word, readings = claim
    if word == "agree":
        return is_agreement(readings, ("rise", paper))
    return is_tuple_of(paper, 2) and is_agreement(readings, ("crossed", *paper))


# What answers a claim.


def answered_current(claim):
    """Whether some state has such a current of the wire, with a paper."""
    _, net, wire, way, number = claim
    told = settled_net(net)
    if told[0] != "state":
        return either(claim, "reaches", False, told)
    told = furthest_current(net, wire, way)
    if told[0] == "current":
        reaches = way * told[1] >= way * number
        return either(claim, "reaches", reaches, told[2] if reaches else told)
    _, (currents, heights), steps = told
    times = max(0, way * (number - currents[wire]))
    round_trip = currents_by(net, steps)
    led = tuple([current + times * more for current, more in zip(currents, round_trip)])
    return either(claim, "reaches", True, (led, heights))


def answered_height(claim):
    """Whether some state has the one knot so much higher than the other one, with a paper."""
    _, net, knot, other, number = claim
    told = settled_net(net)
    if told[0] != "state":
        return either(claim, "higher", False, told)
    told = furthest_height(net, knot, other)
    if told[0] == "height":
        return either(claim, "higher", told[1] >= number, told[2] if told[1] >= number else told)
    _, (currents, heights), knots = told
    times = max(0, number - heights[knot] + heights[other])
    raised = tuple([height + times if at in knots else height for at, height in enumerate(heights)])
    return either(claim, "higher", True, (currents, raised))


def answered_boxes(claim):
    """Whether two boxes are alike, with a paper."""
    _, one, other = claim
    papers = (seen_paper(*one), seen_paper(*other))
    told = alike_by(rise_of_paper(papers[0]), rise_of_paper(papers[1]))
    return either(claim, "alike", told[0] == "alike", (*papers, *told[1:]))
