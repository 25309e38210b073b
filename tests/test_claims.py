"""Stage 22: claims."""

import itertools
import unittest

from helpers import (
    BATTERY, DIODE, FUSE, JUNK, LONG, NETS, NO_INTEGERS, SIXTY, STAIRS, STEPS, all_cuts, all_fights, all_loops, all_ways,
    assert_judges, assert_raises, assert_refusals, digits, dressed, dressed_nets, great_net, plain_net, rests, stair)
from risenets.ends.boxes import alike_or_parted
from risenets.ends.seen import is_seen_paper, seen, seen_paper
from risenets.errors import InvalidOperation, TooMany
from risenets.judge.claims import answered, is_claim, opposite, takes
from risenets.net.nets import Net
from risenets.plane.faces import is_bars, is_plane, is_turns, turns_or_bars
from risenets.rise.joins import moved, turned
from risenets.rise.rises import is_on
from risenets.state.box import furthest_current, furthest_height
from risenets.state.states import is_fight, is_state, state_or_fight
from risenets.talk.bench import Bench
from risenets.time.tanks import Tanks
from risenets.told.readings import agreement
from test_boxes import BOXES, FOUGHT, LONE, NO_BOXES, ROWBOX
from test_plane import FULL, UTILITY
from test_readings import ALL, NO_READINGS, SEEN, crossed
from test_seen import LONG_ROW
from test_states import TORN
from test_tanks import POOLS, SLOPE, TANKS, bars

LAMP = Net(3, ((0, 1, BATTERY), (1, 2, DIODE), (2, 0, STAIRS)))
PAIR = Net(2, ((0, 1, FUSE), (0, 1, FUSE), (1, 0, ("plumb", 3))))
RESTING = POOLS.filled((2, 1))
CIRCLE = ((0, 2), (0, 1), (1, 2))
SMALL = dressed_nets(NETS, 4) + [LAMP, PAIR, TORN]
OPPOSITES = [("state", "fight"), ("reaches", "short"), ("higher", "lower"), ("alike", "parted"), ("plane", "barred"), ("agree", "cross"),
             ("rest", "move")]
CROSSED = ((0, 0), (1, -1))


def with_opposites(claims):
    """The claims, and their opposites."""
    words = dict(OPPOSITES)
    return claims + [(words[claim[0]], *claim[1:]) for claim in claims]


SOME_CLAIMS = with_opposites([
    ("state", LAMP), ("state", TORN), ("reaches", PAIR, 0, 1, 2), ("reaches", PAIR, 2, -1, -SIXTY), ("higher", PAIR, 0, 1, 5), ("higher", LAMP, 2, 0, 0),
    ("alike", ROWBOX, LONE), ("alike", FOUGHT, ROWBOX), ("plane", LAMP), ("plane", FULL), ("agree", SEEN), ("agree", CROSSED),
    ("rest", POOLS), ("rest", RESTING)])


class ClaimTests(unittest.TestCase):
    def test_is_claim(self):
        wrong = NO_INTEGERS + [0, "state", ("state",), ("state", LAMP, LAMP), ["state", LAMP], ("State", LAMP), ("state", None), (LAMP, "state"), (LAMP,),
                               (["state"], LAMP), (None, LAMP), (0, LAMP), ("told", LAMP), ("", LAMP), ("state", POOLS), ("rest", LAMP), ("rest", POOLS, 0)]
        wrong += [(word, PAIR, 0, 1, 2) for word in ("told", "", "state", "fight", "plane", "alike", "rest", "agree", None, 0, ("higher",), PAIR)]
        for word in ("reaches", "short"):
            wrong += [(word, PAIR, wire, 1, 2) for wire in NO_INTEGERS + [-1, 3]] + [(word, PAIR, 0, way, 2) for way in NO_INTEGERS + [0, 2, -2]]
            wrong += [(word, PAIR, 0, 1, number) for number in NO_INTEGERS] + [(word, net, 0, 1, 2) for net in (None, POOLS, ROWBOX, 0)]
            wrong += [(word, PAIR, 0, 1), (word, PAIR, 0, 1, 2, 3), (word, Net(1, ()), 0, 1, 2)]
        for word in ("higher", "lower"):
            wrong += [(word, PAIR, knot, 1, 2) for knot in NO_INTEGERS + [-1, 2, 1]] + [(word, PAIR, 0, knot, 2) for knot in NO_INTEGERS + [-1, 2, 0]]
            wrong += [(word, PAIR, 0, 1, number) for number in NO_INTEGERS] + [(word, net, 0, 1, 2) for net in (None, POOLS, ROWBOX, 0)]
            wrong += [(word, PAIR, 0, 1), (word, PAIR, 0, 1, 2, 3), (word, Net(1, ()), 0, 0, 2)]
        for word in ("alike", "parted"):
            wrong += [(word, box, ROWBOX) for box in NO_BOXES] + [(word, ROWBOX, box) for box in NO_BOXES] + [(word, ROWBOX), (word, ROWBOX, LONE, LONE)]
        wrong += [(word, value) for word in ("agree", "cross") for value in NO_READINGS] + [("agree", SEEN, SEEN), ("cross",)]
        wrong += [(word, value) for word in ("plane", "barred", "fight") for value in (None, POOLS, ROWBOX, SEEN, Bench())]
        wrong += [(word, value) for word in ("rest", "move") for value in (None, LAMP, ROWBOX, SEEN, POOLS.tanks, Bench())]
        assert_judges(self, is_claim, (), SOME_CLAIMS, wrong)
        for claim in [("reaches", PAIR, 0, 1, SIXTY), ("short", PAIR, 2, -1, -SIXTY), ("higher", PAIR, 1, 0, SIXTY), ("cross", ((10 ** 17, 0),) * 60)]:
            self.assertIs(is_claim(claim), True)

    def test_opposite(self):
        for first, second in OPPOSITES:
            for claim in SOME_CLAIMS:
                if claim[0] == first:
                    self.assertEqual(opposite(claim), (second, *claim[1:]))
                if claim[0] == second:
                    self.assertEqual(opposite(claim), (first, *claim[1:]))
        for claim in SOME_CLAIMS:
            self.assertEqual(opposite(opposite(claim)), claim)
        self.assertEqual(len({claim[0] for claim in SOME_CLAIMS}), 14)


class EitherOrTests(unittest.TestCase):
    def check(self, claim, is_true):
        """The claim is answered as it is true or not, by a paper that is taken; the opposite takes none of the papers."""
        own = claim if is_true else opposite(claim)
        for asked in (claim, opposite(claim)):
            told, paper = answered(asked)
            self.assertEqual(told, own)
            self.assertIs(takes(own, paper), True)
            self.assertIs(takes(opposite(own), paper), False)
        return paper

    def test_states_and_fights(self):
        for net in SMALL:
            fights = all_fights(net)
            paper = self.check(("state", net), not fights)
            self.assertTrue(paper in fights if fights else rests(net, paper))

    def test_currents(self):
        found = []
        for net in SMALL:
            fought = bool(all_fights(net))
            for wire, way in itertools.product(range(len(net)), (1, -1)):
                told = None if fought else furthest_current(net, wire, way)
                for number in (-7, -2, -1, 0, 1, 2, 9, 10 ** 20, -10 ** 20):
                    right = not fought and (told[0] == "endless" or way * told[1] >= way * number)
                    paper = self.check(("reaches", net, wire, way, number), right)
                    if right:
                        self.assertTrue(rests(net, paper) and way * paper[0][wire] >= way * number)
                    found.append((fought, right))
        for kind in ((True, False), (False, True), (False, False)):
            self.assertGreater(found.count(kind), 60)

    def test_heights(self):
        found = []
        for net in SMALL:
            fought = bool(all_fights(net))
            for knot, other in list(itertools.permutations(range(min(net.knots, 3)), 2)):
                told = None if fought else furthest_height(net, knot, other)
                for number in (-5, -1, 0, 1, 3, 10 ** 20, -10 ** 20):
                    right = not fought and (told[0] == "endless" or told[1] >= number)
                    paper = self.check(("higher", net, knot, other, number), right)
                    if right:
                        self.assertTrue(rests(net, paper) and paper[1][knot] - paper[1][other] >= number)
                    found.append((fought, right))
        for kind in ((True, False), (False, True), (False, False)):
            self.assertGreater(found.count(kind), 60)

    def test_boxes(self):
        words = []
        for one, other in itertools.product(BOXES[::9] + [FOUGHT, ROWBOX], BOXES[::11] + [FOUGHT, LONE]):
            told = alike_or_parted(one, other)
            words.append(told[0])
            paper = self.check(("alike", one, other), told[0] == "alike")
            self.assertTrue(is_seen_paper(*one, paper[0]) and is_seen_paper(*other, paper[1]))
        self.assertGreater(min(words.count("alike"), words.count("parted")), 5)

    def test_drawings(self):
        for net in SMALL[::5] + [FULL, UTILITY, Net(12, ()), plain_net(5, [wire[:2] for wire in FULL.wires[1:]])]:
            paper = self.check(("plane", net), turns_or_bars(net)[0] == "turns")
            self.assertTrue(is_bars(net, paper) if net in (FULL, UTILITY) else is_turns(net, paper) and is_plane(net, paper))

    def test_readings(self):
        for readings in ALL:
            pairs = crossed(readings)
            paper = self.check(("agree", readings), not pairs)
            self.assertTrue(paper in pairs if pairs else all(is_on(paper, *point) for point in readings))

    def test_tanks(self):
        for tanks in TANKS:
            loops = bars(tanks)
            paper = self.check(("rest", tanks), not loops)
            self.assertTrue(paper in loops if loops else rests(tanks.joined(), ((0,) * len(tanks.joined()), paper)))

    def test_papers_of_other_claims(self):
        pairs = [answered(claim) for claim in SOME_CLAIMS]
        for claim in SOME_CLAIMS:
            for own, paper in pairs:
                if own == opposite(claim):
                    self.assertIs(takes(claim, paper), False)
                if own == claim:
                    self.assertIs(takes(claim, paper), True)
        # A state shows three kinds of claims.
        state = state_or_fight(PAIR)[1:]
        for claim in (("state", PAIR), ("reaches", PAIR, 2, 1, 3), ("higher", PAIR, 0, 1, 0)):
            self.assertIs(takes(claim, state), True)


class PaperTests(unittest.TestCase):
    def test_states_and_fights(self):
        right = [((0, 0, 0), (n, n - 5, n - 1)) for n in (0, 10 ** 99)]
        wrong = [((0, 0, 0), (0, -5, 2)), ((0, 0, False), (0, -5, -1)), [(0, 0, 0), (0, -5, -1)], ("state", (0, 0, 0), (0, -5, -1)), ("cut", (0,))]
        assert_judges(self, takes, (("state", LAMP),), right, wrong)
        assert_judges(self, takes, (("fight", LAMP),), [], wrong + right)
        right = [fight for fight in all_fights(TORN)]
        wrong = [("cut", (0,)), ("cut", (True,)), ("loop", ((0, -1), (1, 1))), ("loop", ((0, True), (1, -1))), ["cut", (2,)], (2,), ("cut", [2])]
        assert_judges(self, takes, (("fight", TORN),), right, wrong + [((0,) * 4, (0,) * 4)])
        assert_judges(self, takes, (("state", TORN),), [], wrong + right)

    def test_currents(self):
        right = [((2, 1, 3), (0, 0)), ((2, 1, 3), (10 ** 99, 10 ** 99))]
        wrong = [((1, 2, 3), (0, 0)), ((2, 1, 3), (0, 1)), ((3, 0, 3), (0, 0)), ((2, True, 3), (0, 0)), ("current", 2, right[0], ()), (2, 1, 3), right]
        assert_judges(self, takes, (("reaches", PAIR, 0, 1, 2),), right, wrong)
        assert_judges(self, takes, (("reaches", PAIR, 0, 1, 3),), [], wrong + right)
        assert_judges(self, takes, (("reaches", PAIR, 0, -1, 1),), [((1, 2, 3), (0, 0))], right + wrong[1:])
        state = ((2, 1, 3), (0, 0))
        right = [("current", 2, state, ()), ("current", 2, ((2, 1, 3), (4, 4)), ())]
        wrong = [("current", 2, state, (0,)), ("current", 1, ((1, 2, 3), (0, 0)), ()), ("current", 2, state, (1,)), ("current", True, state, ()), ("current", 2, state), state,
                 ("Current", 2, state, ()), ["current", 2, state, ()], ("current", 2, state, [0]), ("current", 2, state, (False,)), ("current", 3, state, ()),
                 ("current", 2, (state[0], (0, 1)), ()), ("endless", state, ((0, 1), (1, -1))), ("current", 2, state, (), 0), ("cut", (0,)), ("current", 2, None, ())]
        assert_judges(self, takes, (("short", PAIR, 0, 1, 3),), right, wrong)
        assert_judges(self, takes, (("short", PAIR, 0, 1, SIXTY),), right, wrong)
        assert_judges(self, takes, (("short", PAIR, 0, 1, 2),), [], wrong + right)
        low = ("current", 1, ((1, 2, 3), (0, 0)), (0,))
        assert_judges(self, takes, (("short", PAIR, 0, -1, 0),), [low], right + [("current", 1, ((1, 2, 3), (0, 0)), ())])
        assert_judges(self, takes, (("short", PAIR, 0, -1, 1),), [], right + [low])
        assert_judges(self, takes, (("short", TORN, 0, 1, -SIXTY),), all_fights(TORN), right + wrong)

    def test_heights(self):
        right = [((2, 1, 3), (0, 0)), ((1, 2, 3), (4, 4)), ((2, 1, 3), (10 ** 99, 10 ** 99))]
        wrong = [((2, 1, 3), (1, 0)), ((2, 1, 3), (False, 0)), ((2, 1, 3), (0,)), ((2, 2, 3), (0, 0)), ("height", 0, right[0], ((0, 1),))]
        assert_judges(self, takes, (("higher", PAIR, 0, 1, 0),), right, wrong)
        assert_judges(self, takes, (("higher", PAIR, 0, 1, 1),), [], wrong + right)
        net = Net(2, ((0, 1, STEPS), (1, 0, ("plumb", 2))))
        top, low = ((2, 2), (3, 0)), ((2, 2), (0, 0))
        self.assertTrue(is_state(net, top) and is_state(net, low))
        right = [("height", 3, top, ((0, 1),)), ("height", 3, ((2, 2), (8, 5)), ((0, 1),))]
        wrong = [("height", 3, top, ((1, -1),)), ("height", 0, low, ((0, 1),)), ("height", 3, top, ()), ("height", 3, top, ((0, True),)), ("height", 3, low, ((0, 1),)),
                 ["height", 3, top, ((0, 1),)], ("Height", 3, top, ((0, 1),)), ("height", 3, top), ("endless", top, (0,)), ("height", 4, top, ((0, 1),)), top,
                 ("height", 3, top, [(0, 1)]), ("height", 3, top, ((0, 1),), 0), ("current", 3, top, ((0, 1),)), ("height", None, top, ((0, 1),)), ("cut", (0,))]
        assert_judges(self, takes, (("lower", net, 0, 1, 4),), right, wrong)
        assert_judges(self, takes, (("lower", net, 0, 1, 3),), [], wrong + right)
        assert_judges(self, takes, (("lower", net, 1, 0, 1),), [("height", 0, low, ((0, -1),))], wrong + right)
        assert_judges(self, takes, (("lower", TORN, 0, 1, -SIXTY),), all_fights(TORN), wrong + right)

    def test_boxes(self):
        papers = (seen_paper(*ROWBOX), seen_paper(*LONE))
        cut = ("loop", ((0, 1), (1, -1)))
        wrong = [(papers[1], papers[0]), papers + (0,), list(papers), papers[:1], (papers[0], cut), (cut, cut), (None, papers[1]), (papers[0][1], papers[1][1]),
                 (papers[0], papers[0]), (papers[0], None), papers[0], (papers[0][:4], papers[1]), (("rise", papers[0][1]), ("rise", papers[1][1]))]
        assert_judges(self, takes, (("alike", ROWBOX, LONE),), [papers], wrong)
        assert_judges(self, takes, (("parted", ROWBOX, LONE),), [], wrong + [papers, (*papers, 0, 1, 0), (*papers, 1, 1, 0), (*papers, 0, 5, 5)])
        fights = [fight for fight in all_fights(FOUGHT[0]) if fight[0] == "loop" or (0 in fight[1]) == (1 in fight[1])]
        right = [(one, other) for one in fights for other in fights]
        assert_judges(self, takes, (("alike", FOUGHT, FOUGHT),), right, wrong[:-3])
        assert_judges(self, takes, (("parted", FOUGHT, FOUGHT),), [], right + [(*pair, 0, 0, 0) for pair in right])
        back = (ROWBOX[0], 2, 0)
        both = (papers[0], seen_paper(*back))
        right = [(*both, 0, 1, 0), (*both, 0, 0, -4), (*both, 1, 0, 10 ** 99), (*both, 1, -1, 0)]
        wrong = [(*both, 1, 1, 0), (*both, 0, 0, 0), (*both, 0, True, 0), (*both, False, 1, 0), (*both, 0, 1, False), (*both, 2, 1, 0), (*both, -1, 1, 0), both,
                 (*both, 0, 1), (*both, 0, 1, 0, 0), (*both, None, 1, 0), (*both[::-1], 0, 1, 0), [*both, 0, 1, 0], (*both, 0, None, 0), (*both, 0, 9, 9),
                 ("parted", 0, 1, 0), (cut, both[1], 1, -1, 0), (both[0], cut, 0, 1, 0)]
        assert_judges(self, takes, (("parted", ROWBOX, back),), right, wrong)
        right = [(fight, papers[0], 1, 1, 0) for fight in fights]
        wrong = [(fights[0], papers[0], 0, 1, 0), (fights[0], papers[0], 1, 1, 1), (papers[0], fights[0], 1, 1, 0), (fights[0], papers[0]),
                 (("cut", (0,)), papers[0], 1, 1, 0), (fights[0], fights[0], 1, 1, 0)]
        assert_judges(self, takes, (("parted", FOUGHT, ROWBOX),), right, wrong)
        assert_judges(self, takes, (("alike", FOUGHT, ROWBOX),), [], right + wrong)

    def test_drawings(self):
        wrong = [((0, 2), (0, 1), (1, 1)), list(CIRCLE), ((False, 2), (0, 1), (1, 2)), ("turns", CIRCLE), CIRCLE[:2], ((0, 1, 2, 3, 4), ())]
        assert_judges(self, takes, (("plane", LAMP),), [CIRCLE, ((2, 0), (0, 1), (2, 1))], wrong)
        assert_judges(self, takes, (("barred", LAMP),), [], wrong + [CIRCLE])
        net = plain_net(2, ((0, 1),) * 3)
        assert_judges(self, takes, (("plane", net),), [((0, 1, 2), (2, 1, 0)), ((0, 2, 1), (0, 1, 2))], [((0, 1, 2), (0, 1, 2)), ((0, 1, 2), (1, 2, 0))])
        _, hubs, ways = turns_or_bars(FULL)
        wrong = [("bars", hubs, ways), (hubs, ways[::-1]), [hubs, ways], (hubs,), (hubs, ways, 0), (hubs[::-1], ways), (hubs, list(ways)), CIRCLE]
        assert_judges(self, takes, (("barred", FULL),), [(hubs, ways)], wrong)
        turns = tuple(tuple(wire for wire, ends in enumerate(FULL.wires) if knot in ends[:2]) for knot in range(5))
        assert_judges(self, takes, (("plane", FULL),), [], wrong + [(hubs, ways), turns])

    def test_readings(self):
        right = [("flat", ((4, 0), (4, 5))), ("steep", ((0, 2), (4, 2), (4, 5)))]
        wrong = [("rise", right[0]), ("plumb", 4), ("flat", ((4, False), (4, 5))), list(right[0]), (0, 1), (1, 2), None]
        assert_judges(self, takes, (("agree", SEEN),), right, wrong)
        assert_judges(self, takes, (("cross", SEEN),), [], wrong + right)
        wrong = [(1, 0), (False, 1), (0, True), [0, 1], (0, 1, 0), (0,), ("crossed", 0, 1), (0, 2), (-2, 1), (0, 0), (0, None), (0, 10 ** 99), (0, "1"), ([0], 1)]
        assert_judges(self, takes, (("cross", CROSSED),), [(0, 1)], wrong)
        assert_judges(self, takes, (("agree", CROSSED),), [], wrong + right + [(0, 1)])

    def test_tanks(self):
        right = [(n, n + 1, n + 1) for n in (0, -7, 10 ** 99)]
        wrong = [("rest", (0, 1, 1)), (0, 2, 1), (False, 1, 1), (0, True, 1), [0, 1, 1], (0, 1), ((0, 0, 0), (0, 1, 1)), None]
        self.assertIs(takes(("rest", RESTING), (0, 1, 1)), True)
        assert_judges(self, takes, (("rest", RESTING),), right, [value for value in wrong if value not in right])
        assert_judges(self, takes, (("move", RESTING),), [], wrong + right)
        right = [loop for loop in bars(POOLS)]
        wrong = [("loop", right[0]), tuple((wire, -way) for wire, way in right[0]), ((1, True), (2, -1), (0, -1)), list(right[0]), ((1, 1), (2, -1)), (0, 1, 1), ()]
        assert_judges(self, takes, (("move", POOLS),), right, wrong)
        assert_judges(self, takes, (("rest", POOLS),), [], wrong + right)

    def test_bent_papers_of_small_nets(self):
        """What a paper of a fight, of a current or of a height can be is judged by its words."""
        for net in SMALL[::3]:
            fights = all_fights(net)
            for fight in [("cut", cut) for cut in all_cuts(net)] + [("loop", loop) for loop in all_loops(net)]:
                for claim in [("fight", net)] + ([("short", net, 0, 1, 0)] if len(net) else []) + ([("lower", net, 0, 1, 0)] if net.knots > 1 else []):
                    self.assertIs(takes(claim, fight), fight in fights)
            if fights or net.knots < 2:
                continue
            for knot, other in ((0, 1), (1, 0)):
                told = furthest_height(net, knot, other)
                if told[0] == "height":
                    for way in all_ways(net, knot, other):
                        paper = ("height", told[1], told[2], way)
                        taken = takes(("lower", net, knot, other, told[1] + 1), paper)
                        self.assertTrue(taken or way != told[3])
                        self.assertIs(takes(("lower", net, knot, other, told[1]), paper), False)


class GreatTests(unittest.TestCase):
    def test_great_nets(self):
        for salt, firsts in itertools.product(range(2), (("flat", "steep"), ("steep",))):
            net = great_net(firsts, salt)
            for claim in (("state", net), ("reaches", net, 5, 1, 10 ** 12), ("reaches", net, 9, -1, 10 ** 29), ("higher", net, 0, 7, 10 ** 29),
                          ("higher", net, 3, 2, -10 ** 12), ("plane", net), ("short", net, 23, 1, -10 ** 29), ("lower", net, 11, 1, 1 - 10 ** 30)):
                told, paper = answered(claim)
                self.assertIn(told, (claim, opposite(claim)))
                self.assertIs(takes(told, paper), True)
                self.assertIs(takes(opposite(told), paper), False)
                self.assertLessEqual(digits(paper), 60)

    def test_sixty_digits(self):
        net = Net(2, ((0, 1, ("level", 5)), (0, 1, ("level", 5))))
        for claim in (("reaches", net, 0, 1, SIXTY), ("reaches", net, 0, -1, -SIXTY), ("short", net, 1, 1, SIXTY)):
            told, paper = answered(claim)
            self.assertEqual(told[0], "reaches")
            self.assertIs(takes(told, paper), True)
        apart = Net(2, ((0, 1, ("plumb", 0)),))
        for number in (SIXTY, -SIXTY):
            told, paper = answered(("lower", apart, 0, 1, number))
            self.assertEqual((told[0], takes(told, paper)), ("higher", True))

    def test_too_many_corners(self):
        far = (LONG_ROW, 0, 11)
        for one, other in ((far, LONE), (LONE, far), (FOUGHT, far), (far, far)):
            for word in ("alike", "parted"):
                assert_raises(self, TooMany, ("limit", 400), answered, (word, one, other))
                self.assertIs(takes((word, one, other), (seen_paper(*LONE),) * 2), False)
                self.assertIs(is_claim((word, one, other)), True)
        part = (Net(12, LONG_ROW.wires[:10]), 0, 10)
        told, paper = answered(("parted", part, (part[0], 10, 0)))
        self.assertEqual((told[0], takes(told, paper)), ("parted", True))

    def test_many_readings(self):
        rise = stair("flat", 60)
        told, paper = answered(("cross", rise[1]))
        self.assertEqual((told[0], takes(told, paper)), ("agree", True))
        self.assertEqual(answered(("agree", rise[1][:-1] + ((0, 99),)))[0][0], "cross")


class RefusalTests(unittest.TestCase):
    def test_refusals(self):
        wrong = (JUNK + NO_INTEGERS + [0, LAMP, ("state",), ("state", None), ("reaches", PAIR, 0, True, 1), ("short", PAIR, 0, 1, LONG), ["state", LAMP],
                                       ("alike", ROWBOX), ("agree", ()), ("rest", LAMP), ("plane", POOLS), (["rest"], POOLS), ("higher", PAIR, 0, 0, 1)],
                 InvalidOperation, None)
        assert_refusals(self, opposite, [("state", LAMP)], {0: wrong})
        assert_refusals(self, answered, [("state", LAMP)], {0: wrong})
        assert_refusals(self, takes, [("state", LAMP), None], {0: wrong})

    def test_claims_are_what_the_stages_say(self):
        self.assertIs(is_fight(TORN, answered(("state", TORN))[1]), True)
        self.assertEqual(agreement(SEEN)[1], answered(("cross", SEEN))[1])
        self.assertEqual(seen(*ROWBOX), ("rise", turned(moved(turned(seen(*LONE)[1]), 0, 0))))
        self.assertEqual(answered(("move", Tanks(Net(2, ()), ((1, SLOPE, 0),))))[0][0], "rest")
        self.assertEqual(answered(("plane", dressed(FULL, 1)))[0][0], "barred")


class NotTrueTests(unittest.TestCase):
    """[22.4]: none of these is true."""

    def test_a_paper_is_taken_for_one_claim(self):
        paper = ("cut", (2,))
        self.assertEqual([takes(claim, paper) for claim in (("fight", TORN), ("short", TORN, 0, 1, 0), ("lower", TORN, 0, 1, 0))], [True] * 3)

    def test_a_wire_more_leaves_a_claim_true(self):
        fought = Net(2, ((0, 1, ("plumb", 1)),))
        for net, word in ((fought, "fight"), (Net(2, fought.wires + ((1, 0, ("plumb", 1)),)), "state"), (Net(2, fought.wires * 2), "fight")):
            self.assertEqual(answered(("state", net))[0], (word, net))


if __name__ == "__main__":
    unittest.main()
