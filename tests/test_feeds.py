"""Stage 15: feeds."""

import itertools
import unittest

from helpers import (
    BATTERY, DIODE, FUSE, JUNK, LONG, NETS, NO_INTEGERS, NO_NETS, SIXTY, STAIRS, STEPS, all_cuts, all_loops, all_ways,
    assert_judges, assert_raises, assert_refusals, digits, dressed_nets, fighting_cuts, fighting_loops, great_net,
    plain_net, rests, spread, windows)
from risenets.change.feeds import (
    fed_or_fight, fed_rise, greatest_fed, is_fed_fight, is_fed_state, is_most_fed, least_fed, most_fed, risen)
from risenets.ends.seen import seen
from risenets.errors import InvalidFeed, InvalidNet, InvalidNumber, Refused, TooMany
from risenets.net.nets import Net, components
from risenets.rise.rises import currents_of, is_on, tensions_at
from risenets.state.box import least_heights, most_heights
from test_nets import no_rows
from test_seen import LONG_ROW

FALL, LIMIT = Net(3, ((1, 0, STAIRS), (2, 1, STAIRS))), Net(2, ((1, 0, FUSE),))
# A loop that fights, whatever is fed.
JAM = Net(3, ((0, 1, BATTERY), (0, 1, DIODE), (1, 2, FUSE)))
PIPE = Net(3, ((0, 1, ("plumb", 1)), (1, 2, FUSE)))
SMALL = [net for net in dressed_nets(NETS, 12) if len(components(net)) == 1 and net.knots <= 5] + [FALL, LIMIT, JAM]
TORN_NETS = [Net(2, ()), Net(3, ((0, 1, FUSE),)), Net(4, ((0, 1, FUSE), (2, 3, FUSE)))]
BAD_FED_NET = (NO_NETS + TORN_NETS, InvalidNet, None)


def some_feeds(net):
    """A few feeds for the net."""
    rows = [spread(net.knots, most, 5 * net.knots + most) for most in (1, 2, 3)]
    return [(0,) * net.knots] + [(row[0] - sum(row), *row[1:]) for row in rows]


def more_at(feeds, knot, number):
    """The feeds with so much more at the knot."""
    return tuple(feed + number * ((at == knot) - (at == 0)) for at, feed in enumerate(feeds))


def is_fed(net, feeds, state):
    """Whether the pair of rows is a fed state."""
    return state[1][0] == 0 and rests(net, state, feeds)


def fed_fights(net, feeds):
    """All cuts that fight the feeds, and all loops that fight."""
    return [("cut", cut) for cut in fighting_cuts(net, feeds)] + [("loop", loop) for loop in fighting_loops(net)]


def with_feeds(net, feeds, but=0):
    """The net with a wire from the ground to each knot that is fed, but one."""
    wires = tuple((0, knot, ("plumb", feed)) for knot, feed in enumerate(feeds) if feed and knot not in (0, but))
    return Net(net.knots, net.wires + wires)


CASES = [(net, feeds) for net in SMALL for feeds in some_feeds(net)]
FED = [(net, feeds) for net, feeds in CASES if not fed_fights(net, feeds)]


class EitherOrTests(unittest.TestCase):
    def test_either_or(self):
        words = []
        for net, feeds in CASES:
            told, fights = fed_or_fight(net, feeds), fed_fights(net, feeds)
            words.append(told[0])
            if told[0] == "state":
                self.assertEqual((len(told), fights), (3, []))
                self.assertTrue(is_fed(net, feeds, told[1:]), (net.wires, feeds, told))
                self.assertIs(is_fed_state(net, feeds, told[1:]), True)
                self.assertIs(is_fed_fight(net, feeds, told), False)
            else:
                self.assertIn(told, fights)
                self.assertIs(is_fed_fight(net, feeds, told), True)
        for word in ("state", "cut", "loop"):
            self.assertGreater(words.count(word), 20)

    def test_fed_states_are_what_their_words_say(self):
        right = 0
        for net, feeds in [(net, feeds) for net, feeds in CASES if len(net) <= 2 and net.knots <= 3][:30]:
            for value in itertools.product(windows(len(net), 3), windows(net.knots, 2)):
                wanted = is_fed(net, feeds, value)
                self.assertIs(is_fed_state(net, feeds, value), wanted)
                right += wanted
        self.assertGreater(right, 20)

    def test_fights_are_judged_by_their_sums(self):
        for net, feeds in CASES:
            fights = fed_fights(net, feeds)
            for fight in [("cut", cut) for cut in all_cuts(net)] + [("loop", loop) for loop in all_loops(net)]:
                self.assertIs(is_fed_fight(net, feeds, fight), fight in fights)

    def test_is_state_with_wires_for_feeds(self):
        for net, feeds in FED:
            word, currents, heights = fed_or_fight(net, feeds)
            fed = with_feeds(net, feeds)
            more = tuple(feed for knot, feed in enumerate(feeds) if knot and feed)
            self.assertTrue(rests(fed, (currents + more, heights)))

    def test_one_knot(self):
        net = Net(1, ())
        self.assertEqual(fed_or_fight(net, (0,)), ("state", (), (0,)))
        self.assertEqual((least_fed(net, (0,)), greatest_fed(net, (0,))), ((0,), (0,)))
        assert_judges(self, is_fed_state, (net, (0,)), [((), (0,))], [((), (1,)), ((), (False,)), ((), ()), ((0,), (0,))])
        for function, more in ((risen, (0,)), (most_fed, ()), (is_most_fed, (None,)), (fed_rise, ())):
            assert_raises(self, InvalidNumber, ("given", 0), function, net, (0,), 0, *more)
            assert_raises(self, InvalidNumber, ("given", 1), function, net, (0,), 1, *more)

    def test_both_fight(self):
        told = fed_or_fight(JAM, (-3, 0, 3))
        self.assertIn(told, fed_fights(JAM, (-3, 0, 3)))
        for fight in fed_fights(JAM, (-3, 0, 3)):
            self.assertIs(is_fed_fight(JAM, (-3, 0, 3), fight), True)
        self.assertEqual({fight[0] for fight in fed_fights(JAM, (-3, 0, 3))}, {"cut", "loop"})

    def test_judges(self):
        right = [((1, 1), (0, 1, 3)), ((1, 1), (0, 2, 4)), ((1, 1), (0, 1, 2))]
        wrong = [((1, 1), (1, 2, 4)), ((1, 1), (0, 1, 4)), ((1, 2), (0, 1, 3)), ((True, 1), (0, 1, 3)), ((1, 1), (False, 1, 3)),
                 ((1, 1), (0, True, 3)), ((1, 1), (0, 1)), [(1, 1), (0, 1, 3)], ((1, 1), [0, 1, 3]), ((1, 1), (0, 1, 3), 0),
                 ("state", (1, 1), (0, 1, 3)), ((1, 1),), ((10 ** 99, 1), (0, 1, 3)), ((1, 1), (0, 1, 10 ** 99)), ((0, 0), (0, 0, 0))]
        assert_judges(self, is_fed_state, (FALL, (-1, 0, 1)), right, wrong)
        far = Net(2, ((0, 1, ("level", 5)), (0, 1, ("level", 5))))
        right = [((n, 1 - n), (0, -5)) for n in (0, 1, 10 ** 99)]
        assert_judges(self, is_fed_state, (far, (1, -1)), right, [((n, -n), (0, -5)) for n in (0, 10 ** 99)])
        wrong = [("cut", (1,)), ("cut", [0]), ("cut", (False,)), ("Cut", (0,)), ("cut", (0, 1)), ("cut", (0,), 0), ["cut", (0,)], (0,),
                 ("loop", ((0, 1), (1, -1))), ("state", (3,), (0, 0)), ("loop", (0,)), ("cut", 0), ("cut", ())]
        assert_judges(self, is_fed_fight, (LIMIT, (-3, 3)), [("cut", (0,))], wrong)
        assert_judges(self, is_fed_fight, (LIMIT, (-2, 2)), [], wrong + [("cut", (0,))])
        right = [("loop", ((0, 1), (1, -1))), ("loop", ((1, -1), (0, 1)))]
        wrong = [("loop", ((0, -1), (1, 1))), ("loop", ((0, True), (1, -1))), ("loop", [(0, 1), (1, -1)]), ("cut", (0,)), ("loop", ())]
        wrong += [(word, ((0, 1), (1, -1))) for word in ("Loop", "", None, "cut", "state", ("loop",), True)]
        assert_judges(self, is_fed_fight, (JAM, (0, 0, 0)), right, wrong)


class RowTests(unittest.TestCase):
    def test_rows_by_trying_all(self):
        seen_ends = []
        for net, feeds in [case for case in FED if case[0].knots <= 3]:
            currents = fed_or_fight(net, feeds)[1]
            rows = [(0, *row) for row in windows(net.knots - 1, 12) if is_fed(net, feeds, (currents, (0, *row)))]
            near = [row for row in rows if max(map(abs, row)) <= 9]
            for knot in range(net.knots):
                heights, nearer = [row[knot] for row in rows], [row[knot] for row in near]
                for told, end in ((least_fed(net, feeds)[knot], min), (greatest_fed(net, feeds)[knot], max)):
                    if told is None:
                        # It goes on with the window.
                        self.assertNotEqual(end(heights), end(nearer))
                    else:
                        self.assertEqual(end(heights), told, (net.wires, feeds, knot))
                    seen_ends.append(told is None)
        self.assertGreater(min(seen_ends.count(True), seen_ends.count(False)), 40)

    def test_rows_as_of_all_states(self):
        for net, feeds in FED:
            fed = with_feeds(net, feeds)
            for told, wanted in ((least_fed(net, feeds), least_heights(fed, 0)), (greatest_fed(net, feeds), most_heights(fed, 0))):
                self.assertEqual(told[0], 0)
                self.assertEqual(wanted, None if None in told else told)

    def test_one_row_has_all_that_have_an_end(self):
        for net, feeds in FED:
            for told in (least_fed(net, feeds), greatest_fed(net, feeds)):
                if None not in told:
                    self.assertIs(is_fed_state(net, feeds, (fed_or_fight(net, feeds)[1], told)), True)

    def test_order(self):
        least_end, most_end = -10 ** 9, 10 ** 9
        shown = 0
        for net, feeds in FED:
            for row in itertools.product((0, 1, 2), repeat=net.knots - 1):
                behind = (feeds[0] - sum(row), *(feed + more for feed, more in zip(feeds[1:], row)))
                if sum(row) > 3 or fed_or_fight(net, behind)[0] != "state":
                    continue
                for one, other, end in ((least_fed(net, feeds), least_fed(net, behind), least_end),
                                        (greatest_fed(net, feeds), greatest_fed(net, behind), most_end)):
                    for ahead, after in zip(one, other):
                        self.assertLessEqual(end if ahead is None else ahead, end if after is None else after)
                        shown += 1
        self.assertGreater(shown, 1000)

    def test_risen(self):
        shown = 0
        for net, feeds in FED:
            for knot, number in itertools.product(range(1, net.knots), (0, 1, 2, 5)):
                behind = more_at(feeds, knot, number)
                if fed_or_fight(net, behind)[0] != "state":
                    self.check_refused(net, feeds, knot, number)
                    continue
                rows = risen(net, feeds, knot, number)
                for told, function in zip(rows, (least_fed, greatest_fed)):
                    ahead, after = function(net, feeds), function(net, behind)
                    self.assertEqual(told, tuple(None if None in pair else pair[1] - pair[0] for pair in zip(ahead, after)))
                    if None not in ahead + after:
                        self.assertTrue(all(0 <= rise <= told[knot] for rise in told))
                        shown += any(told)
        self.assertGreater(shown, 50)

    def check_refused(self, net, feeds, knot, number):
        """The fight is one of what is fed behind."""
        with self.assertRaises(Refused) as caught:
            risen(net, feeds, knot, number)
        self.assertIn(caught.exception.reason, fed_fights(net, more_at(feeds, knot, number)))

    def test_rows_refuse_fights(self):
        for net, feeds in CASES:
            fights = fed_fights(net, feeds)
            if fights and net.knots > 1:
                for function, more in ((least_fed, ()), (greatest_fed, ()), (risen, (1, 0)), (risen, (1, 9)), (most_fed, (1,)),
                                       (is_most_fed, (1, None))):
                    with self.assertRaises(Refused) as caught:
                        function(net, feeds, *more)
                    self.assertIn(caught.exception.reason, fights)
        self.assertEqual(least_fed(LIMIT, (-2, 2)), (0, 0))
        self.assertEqual(greatest_fed(LIMIT, (-2, 2)), (0, None))
        self.assertEqual((least_fed(LIMIT, (2, -2)), greatest_fed(LIMIT, (2, -2))), ((0, None), (0, 0)))


class MostTests(unittest.TestCase):
    def right_papers(self, net, feeds, knot):
        """All papers, found by trying all numbers up to a far one."""
        endless = [("endless", way) for way in all_ways(net, knot, 0) if all(
            currents_of(net.wires[wire][2])[1 if turn == 1 else 0] is None for wire, turn in way)]
        if endless:
            return endless
        number = 0
        while not fighting_cuts(net, more_at(feeds, knot, number + 1)):
            number += 1
            self.assertLess(number, 40)
        return [("most", number, cut) for cut in fighting_cuts(net, more_at(feeds, knot, number + 1))]

    def test_most(self):
        words = []
        for net, feeds in FED[::3]:
            for knot in range(1, net.knots):
                right = self.right_papers(net, feeds, knot)
                told = most_fed(net, feeds, knot)
                self.assertIn(told, right)
                words.append(told[0] if told[0] == "endless" or told[1] else "none")
                values = right + [("most", number, cut) for number in range(-1, 5) for cut in all_cuts(net)]
                values += [("endless", way) for way in all_ways(net, knot, 0)]
                for value in values:
                    self.assertIs(is_most_fed(net, feeds, knot, value), value in right)
        for word in ("endless", "most", "none"):
            self.assertGreater(words.count(word), 10)

    def test_nothing_can_be_fed(self):
        self.assertEqual(most_fed(LIMIT, (-2, 2), 1), ("most", 0, (0,)))
        self.assertEqual(most_fed(LIMIT, (2, -2), 1), ("most", 4, (0,)))
        self.assertEqual(most_fed(PIPE, (1, 0, -1), 1)[:2], ("most", 0))

    def test_judge(self):
        wrong = [("most", 1, (0,)), ("most", 3, (0,)), ("most", 2, (1,)), ("most", 2, (0, 1)), ("most", 2, [0]), ("most", True, (0,)),
                 ("most", 2, (False,)), ("Most", 2, (0,)), ["most", 2, (0,)], ("most", 2, (0,), 0), ("most", 2), ("endless", ((0, 1),)),
                 ("most", 10 ** 99, (0,)), ("most", -10 ** 99, (0,)), ("most", None, (0,)), ("most", 2, None), ("most", 2, ())]
        assert_judges(self, is_most_fed, (LIMIT, (0, 0), 1), [("most", 2, (0,))], wrong)
        wrong += [("endless", ((0, 1), (1, 1))), ("endless", ((1, 1),)), ("endless", ((1, True), (0, 1))), ("endless", [(1, 1), (0, 1)]),
                  ("endless", ((1, 1), (0, 1)), 0), ("endless", ()), ("Endless", ((1, 1), (0, 1))), ("endless", None)]
        assert_judges(self, is_most_fed, (FALL, (-1, 0, 1), 2), [("endless", ((1, 1), (0, 1)))], wrong)
        self.assertIs(is_most_fed(JAM_FREE, (0, 0), 1, most_fed(JAM_FREE, (0, 0), 1)), True)


JAM_FREE = Net(2, ((0, 1, STAIRS), (0, 1, FUSE)))


class RiseTests(unittest.TestCase):
    def test_as_seen(self):
        words = []
        for net, feeds in CASES:
            for knot in range(1, net.knots):
                told = seen(with_feeds(net, feeds, knot), knot, 0)
                words.append(told[0])
                if told[0] != "rise":
                    with self.assertRaises(Refused) as caught:
                        fed_rise(net, feeds, knot)
                    fight = caught.exception.reason
                    self.assertIn(fight, fed_fights(net, feeds))
                    self.assertTrue(fight[0] == "loop" or (0 in fight[1]) == (knot in fight[1]))
                    continue
                # What is fed at the knot already is put in, too.
                own = feeds[knot]
                for number in range(-5, 6):
                    self.assertEqual(tensions_at(fed_rise(net, feeds, knot), number), tensions_at(told[1], number + own))
        for word in ("rise", "cut", "loop"):
            self.assertGreater(words.count(word), 20)

    def test_heights_along_it(self):
        for net, feeds in FED:
            for knot in range(1, net.knots):
                rise = fed_rise(net, feeds, knot)
                for number in (-3, -1, 0, 1, 4):
                    fed = more_at(feeds, knot, number)
                    told = fed_or_fight(net, fed)
                    if told[0] != "state":
                        self.assertIsNone(tensions_at(rise, number))
                        continue
                    self.assertTrue(is_on(rise, number, told[2][knot]))
                    self.assertEqual(tensions_at(rise, number), (least_fed(net, fed)[knot], greatest_fed(net, fed)[knot]))

    def test_rise_where_nothing_can_be_borne_yet(self):
        self.assertEqual(fed_or_fight(LIMIT, (-9, 9))[0], "cut")
        self.assertEqual(fed_rise(LIMIT, (-9, 9), 1), ("steep", ((-11, 0), (-7, 0))))
        assert_raises(self, Refused, ("reason", ("cut", (2,))), fed_rise, PIPE, (3, 0, -3), 1)

    def test_too_many(self):
        far = 10 ** 30
        assert_raises(self, TooMany, ("limit", 400), fed_rise, LONG_ROW, (0,) * 12, 11)
        assert_raises(self, TooMany, ("limit", 10 ** 18), fed_rise, LIMIT, (-far, far), 1)
        self.assertEqual(fed_rise(LIMIT, (2 - 10 ** 18, 10 ** 18 - 2), 1), ("steep", ((-10 ** 18, 0), (4 - 10 ** 18, 0))))
        assert_raises(self, TooMany, ("limit", 400), fed_rise, LONG_ROW, (-far,) + (0,) * 10 + (far,), 11)


class GreatTests(unittest.TestCase):
    def test_great_nets(self):
        words = []
        for salt, firsts in itertools.product(range(3), (("flat", "steep"), ("steep",))):
            net = great_net(firsts, salt)
            for feeds in ((0,) * 12, (10 ** 12, -10 ** 12) + (0,) * 10, (10 ** 30 - 1,) + (0,) * 10 + (1 - 10 ** 30,)):
                told = fed_or_fight(net, feeds)
                words.append(told[0])
                self.assertLessEqual(digits(told), 60)
                if told[0] != "state":
                    self.assertIs(is_fed_fight(net, feeds, told), True)
                    continue
                self.assertIs(is_fed_state(net, feeds, told[1:]), True)
                for knot in (1, 7):
                    more = most_fed(net, feeds, knot)
                    self.assertLessEqual(digits(more), 60)
                    self.assertIs(is_most_fed(net, feeds, knot, more), True)
        self.assertEqual(set(words), {"state", "cut"})

    def test_sixty_digits(self):
        net = Net(2, ((1, 0, STAIRS),))
        self.assertEqual(fed_or_fight(net, (-SIXTY, SIXTY)), ("state", (SIXTY,), (0, 3)))
        self.assertEqual(risen(net, (-SIXTY, SIXTY), 1, SIXTY), ((0, 0), (0, 0)))
        self.assertEqual(risen(net, (0, 0), 1, SIXTY), ((0, 4), (0, 2)))
        self.assertEqual(fed_or_fight(LIMIT, (SIXTY, -SIXTY)), ("cut", (1,)))
        self.assertEqual(fed_or_fight(Net(2, ((0, 1, STEPS),)), (4, -4))[0], "state")


class RefusalTests(unittest.TestCase):
    def test_refusals(self):
        no_feeds = no_rows(3) + [(1, 0, 0), (1, 1, 1), (-1, 0, 2), [0, 0, 0]]
        bad_feeds = (no_feeds, InvalidFeed, None)
        bad_knot = (NO_INTEGERS + [-1, 0, 3, 10], InvalidNumber, "given")
        bad_number = (NO_INTEGERS + [-1, -SIXTY], InvalidNumber, "given")
        for function in (fed_or_fight, least_fed, greatest_fed):
            assert_refusals(self, function, [FALL, (0, 0, 0)], {0: BAD_FED_NET, 1: bad_feeds})
        for function in (is_fed_state, is_fed_fight):
            assert_refusals(self, function, [FALL, (0, 0, 0), None], {0: BAD_FED_NET, 1: bad_feeds})
        for function in (most_fed, fed_rise):
            assert_refusals(self, function, [FALL, (0, 0, 0), 1], {0: BAD_FED_NET, 1: bad_feeds, 2: bad_knot})
        assert_refusals(self, is_most_fed, [FALL, (0, 0, 0), 1, None], {0: BAD_FED_NET, 1: bad_feeds, 2: bad_knot})
        wrongs = {0: BAD_FED_NET, 1: bad_feeds, 2: bad_knot, 3: bad_number}
        assert_refusals(self, risen, [FALL, (0, 0, 0), 1, 0], wrongs)

    def test_fights_are_told_last(self):
        for function, more in ((most_fed, ()), (is_most_fed, (None,)), (fed_rise, ()), (risen, (0,))):
            assert_raises(self, InvalidNumber, ("given", 0), function, JAM, (0, 0, 0), 0, *more)
            assert_raises(self, InvalidFeed, None, function, JAM, (0, 0, 1), 1, *more)
        assert_raises(self, InvalidNumber, ("given", -1), risen, JAM, (0, 0, 0), 1, -1)
        assert_raises(self, InvalidNumber, ("given", LONG), risen, JAM, (0, 0, 0), 1, LONG)
        assert_raises(self, InvalidNet, None, fed_or_fight, plain_net(3, ((0, 1), (0, 1))), (0, 0, 0))
        assert_judges(self, is_fed_fight, (FALL, (0, 0, 0)), [], JUNK + [("cut", cut) for cut in all_cuts(FALL)])


class NotTrueTests(unittest.TestCase):
    """[15.7]: none of these is true."""

    def test_more_feed_lets_no_current_fall(self):
        net = Net(2, ((0, 1, STAIRS),))
        self.assertEqual([fed_or_fight(net, (-n, n))[1] for n in (0, 1)], [(0,), (-1,)])

    def test_what_is_fed_at_two_knots_adds_up(self):
        late = ("steep", ((0, 0), (1, 0), (1, 5), (9, 5)))
        net = Net(3, ((1, 0, late), (2, 1, ("level", 0))))
        self.assertEqual([least_fed(net, feeds)[1] for feeds in ((-1, 1, 0), (-1, 0, 1), (-2, 1, 1))], [0, 0, 5])

    def test_the_least_heights_tell_the_feeds(self):
        self.assertEqual(least_fed(LIMIT, (0, 0)), least_fed(LIMIT, (-1, 1)))


if __name__ == "__main__":
    unittest.main()
