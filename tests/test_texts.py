"""Stage 20: texts."""

import itertools
import unittest

from helpers import (
    BATTERY, DIODE, FUSE, JUNK, LONG, NEAR, NETS, NO_INTEGERS, NO_RISES, SIXTY, STAIRS, STEPS, all_fights, assert_raises,
    assert_refusals, dressed_nets, great_net, plain_net, small_rises, stair, tall)
from risenets.errors import InvalidOperation, InvalidRise, ParseError
from risenets.net.nets import Net
from risenets.rise.rises import is_rise
from risenets.state.states import is_answer, state_or_fight
from risenets.talk.texts import answer_text, net_text, read_answer, read_net, read_rise, rise_text
from test_nets import BAD_NET
from test_states import TORN

ROW = Net(3, ((0, 1, FUSE), (1, 2, DIODE)))
FAR = 10 ** 18
RISES = small_rises() + [STEPS, STAIRS, FUSE, DIODE, ("level", FAR), ("plumb", -FAR), ("steep", ((-FAR, -FAR), (FAR, -FAR), (FAR, FAR))),
                         stair("flat", 400), stair("steep", 399, (-7, 3))]
SMALL = dressed_nets(NETS, 6)
NO_TEXTS = [value for value in JUNK + [0, 1, LONG, ("level 5",), ["level 5"], {"level": 5}] if not isinstance(value, str)]


def parts_of_rise_texts(words):
    """Whether the words are the first ones of the text of a rise, by the words of [20.1]."""
    if words in (["level"], ["plumb"], ["flat"], ["steep"], []):
        return True
    if words[0] in ("level", "plumb"):
        return len(words) == 2 and is_integer_text(words[1]) and is_rise((words[0], int(words[1])))
    corners = [word.split(",") for word in words[1:]]
    if not all(len(corner) == 2 and all(map(is_integer_text, corner)) for corner in corners):
        return False
    return is_rise((words[0], tuple(tuple(map(int, corner)) for corner in corners)))


def is_integer_text(text):
    """Whether the text is that of an integer."""
    figures = text[1:] if text.startswith("-") else text
    return figures.isdigit() and text == str(int(text))


def spot_of_rise(text):
    """The greatest number of first words that are the first ones of the text of a rise."""
    words = text.split(" ")
    if "" in words:
        return 0
    return max(count for count in range(len(words) + 1) if parts_of_rise_texts(words[:count]))


class RiseTests(unittest.TestCase):
    def test_texts(self):
        wanted = {("level", 5): "level 5", ("plumb", -3): "plumb -3", ("level", 0): "level 0",
                  ("flat", ((0, -1), (0, 1), (1, 1))): "flat 0,-1 0,1 1,1", ("steep", ((0, 0),)): "steep 0,0"}
        for rise, text in wanted.items():
            self.assertEqual((rise_text(rise), read_rise(text)), (text, rise))

    def test_there_and_back(self):
        texts = {}
        for rise in RISES:
            text = rise_text(rise)
            self.assertEqual(read_rise(text), rise)
            self.assertEqual(texts.setdefault(text, rise), rise)
        self.assertEqual(len(texts), len(set(RISES)))

    def test_spots(self):
        spots = {"": 0, " ": 0, "level": 1, "flat": 1, "steep 0,0 2,1": 2, "level  5": 0, " level 5": 0, "level 5 ": 0, "level 05": 1, "level -0": 1,
                 "level +1": 1, "level 1000000000000000001": 1, "level -1000000000000000001": 1, "level 5 6": 2, "level 5 6 7": 2, "level 5,6": 1,
                 "plumb": 1, "plumb x": 1, "plumb --1": 1, "plumb -": 1, "plumb 1.0": 1, "plumb 1_0": 1, "plumb 0x1": 1, "up 5": 0, "Level 5": 0,
                 "level\n5": 0, "level 5\n": 1, "\nlevel 5": 0, "level\t5": 0, "flat 0": 1, "flat 0,0,0": 1, "flat ,": 1, "flat 0,": 1, "flat 0,0 0,1 1,1 2,1": 4,
                 "flat 0,0 1,0": 2, "flat -0,0": 1, "flat 0,0 0,00": 2, "steep 0,0 1,0 1,1 x": 4, "steep 0,0 1,0 1,1 1,2": 4, "steep 0,0 0,0": 2, "5": 0,
                 "steep 0,0 1000000000000000001,0": 2, "steep 0,0 1,0  1,1": 0, "flat (0,0)": 1, "level 5 level 5": 2, "l": 0, "level " + "9" * 60: 1,
                 "level " + "9" * 3990: 1, "x" * 4000: 0, "steep": 1, "steep 0,0\nlevel 5": 1, "level 1e3": 1, "level True": 1, "None": 0}
        for text, spot in spots.items():
            assert_raises(self, ParseError, ("spot", spot), read_rise, text)

    def test_spots_by_the_words(self):
        parts = ["level", "flat", "steep", "0,0", "1,0", "1,1", "0", "-2", "x", "", "2,2", "01"]
        read = 0
        for count in (1, 2, 3):
            for words in itertools.product(parts, repeat=count):
                text = " ".join(words)
                spot = spot_of_rise(text)
                if spot == count and count > 1:
                    self.assertEqual(rise_text(read_rise(text)), text)
                    read += 1
                else:
                    assert_raises(self, ParseError, ("spot", spot), read_rise, text)
        self.assertGreater(read, 9)

    def test_bent_texts(self):
        for rise in (STEPS, STAIRS, ("level", -14), stair("flat", 20, (-100, 7), 13)):
            text = rise_text(rise)
            for at in range(len(text)):
                for letter in ("", " ", "0", "-", ",", "\n", "9", "x"):
                    bent = text[:at] + letter + text[at + 1:]
                    spot = spot_of_rise(bent)
                    if bent == text or spot == len(bent.split(" ")):
                        self.assertEqual(rise_text(read_rise(bent)), bent)
                    else:
                        assert_raises(self, ParseError, ("spot", spot), read_rise, bent)

    def test_as_many_corners_as_can_be(self):
        text = rise_text(stair("flat", 400))
        assert_raises(self, ParseError, ("spot", 401), read_rise, text + " 200,201")
        assert_raises(self, ParseError, ("spot", 401), read_rise, text + " x")
        self.assertEqual(len(read_rise(text)[1]), 400)

    def test_no_strings(self):
        for value in NO_TEXTS:
            assert_raises(self, ParseError, ("spot", 0), read_rise, value)
            assert_raises(self, ParseError, ("spot", 0), read_net, value)
            assert_raises(self, ParseError, ("spot", 0), read_answer, ROW, value)


class NetTests(unittest.TestCase):
    def test_texts(self):
        self.assertEqual(net_text(ROW), "net 3\n0 1 steep -2,0 2,0\n1 2 steep 0,0")
        self.assertEqual(net_text(Net(12, ())), "net 12")
        self.assertEqual(net_text(Net(12, ((11, 0, BATTERY),))), "net 12\n11 0 level 5")

    def test_there_and_back(self):
        texts = []
        for net in SMALL + [great_net(("flat", "steep"), 1), Net(2, ((0, 1, ("level", NEAR)),)), plain_net(2, ((0, 1),) * 24)]:
            text = net_text(net)
            self.assertEqual(read_net(text), net)
            self.assertEqual(text.count("\n"), len(net))
            texts.append((text, net.knots, net.wires))
        self.assertEqual(len({text for text, _, _ in texts}), len({(knots, wires) for _, knots, wires in texts}))

    def test_spots(self):
        own = net_text(ROW)
        spots = {"": 0, "net": 0, "net 0": 0, "net 13": 0, "net 03": 0, "net -1": 0, "net  3": 0, "net 3 ": 0, " net 3": 0, "Net 3": 0, "net 3 3": 0, "3": 0,
                 "net 3\n": 1, "\nnet 3": 0, "net 3\n\n0 1 level 5": 1, own + "\n": 3, own + "\n\n": 3, own + "\nx": 3, own + "\n0 1 level 5\n0 3 level 5": 4,
                 "net 2\n0 1 level 5\n1 1 level 5\n0 1 level 5": 2, "net 2\n0 2 level 5": 1, "net 2\n0 1": 1, "net 2\n0 1 level": 1, "net 2\n0 1 level 05": 1,
                 "net 2\n00 1 level 5": 1, "net 2\n0 -1 level 5": 1, "net 2\n-0 1 level 5": 1, "net 2\n0  1 level 5": 1, "net 2\n0 1 level 5 ": 1,
                 "net 2\n0 1 level 5 5": 1, "net 2\n0 1 level 1000000000001": 1, "net 2\n0 1 " + rise_text(stair("flat", 41)): 1, "net 2\r\n0 1 level 5": 0,
                 "net 1\n0 0 level 5": 1, "net x\n0 1 level 5": 0, "level 5": 0, "net 3\n0 1 steep 0,0 2,1": 1, "net " + "9" * 3000: 0, "net 2.0": 0,
                 net_text(plain_net(2, ((0, 1),) * 24)) + "\n0 1 level 5": 25, "net 2\nnet 2": 1, "net 3\t": 0, "net 2\n0 1 level 5\x0b": 1}
        for text, spot in spots.items():
            assert_raises(self, ParseError, ("spot", spot), read_net, text)

    def test_bent_texts(self):
        text = net_text(Net(3, ((0, 1, FUSE), (2, 1, ("level", -14)), (1, 0, STAIRS))))
        read = 0
        for at in range(len(text) + 1):
            for letter in ("", " ", "0", "-", ",", "\n", "3", "1"):
                for bent in (text[:at] + letter + text[at + 1:], text[:at] + letter + text[at:]):
                    try:
                        net = read_net(bent)
                    except ParseError as caught:
                        # The first rows that are told are the text of a net, and one row more is none.
                        spot, rows = caught.spot, bent.split("\n")
                        self.assertLess(spot, len(rows))
                        if spot:
                            self.assertEqual(net_text(read_net("\n".join(rows[:spot]))), "\n".join(rows[:spot]))
                        assert_raises(self, ParseError, ("spot", spot), read_net, "\n".join(rows[:spot + 1]))
                    else:
                        self.assertEqual(net_text(net), bent)
                        read += 1
        self.assertGreater(read, 20)


class AnswerTests(unittest.TestCase):
    def test_texts(self):
        self.assertEqual(answer_text(ROW, ("state", (0, 0), (0, 0, 0))), "currents 0 0\nheights 0 0 0")
        self.assertEqual(answer_text(Net(2, ()), ("state", (), (7, -12))), "currents\nheights 7 -12")
        net = Net(3, ((0, 1, ("plumb", 3)), (1, 0, FUSE), (0, 2, BATTERY), (2, 0, ("level", -4))))
        self.assertEqual(answer_text(net, ("cut", (0, 2))), "cut 0 2")
        self.assertEqual(answer_text(net, ("loop", ((2, 1), (3, 1)))), "loop 2 3")
        net = Net(2, ((0, 1, ("level", 4)), (0, 1, BATTERY)))
        self.assertEqual(answer_text(net, ("loop", ((1, 1), (0, -1)))), "loop 1 -0")
        self.assertEqual(read_answer(net, "loop -0 1"), ("loop", ((0, -1), (1, 1))))
        net = Net(2, ((1, 0, BATTERY), (0, 1, ("level", -4)), (1, 0, ("level", 4))))
        self.assertEqual(answer_text(net, ("loop", ((0, 1), (2, -1)))), "loop 0 -2")

    def test_there_and_back(self):
        for net in SMALL + [TORN, great_net(("steep",), 2)]:
            answers = [state_or_fight(net)] + (all_fights(net) if net.knots < 7 else [])
            if answers[0][0] == "state":
                answers.append((*answers[0][:2], tuple(height - 12345 for height in answers[0][2])))
            texts = set()
            for answer in answers:
                text = answer_text(net, answer)
                self.assertEqual(read_answer(net, text), answer)
                texts.add(text)
            self.assertEqual(len(texts), len(set(answers)))

    def test_integers_of_sixty_digits(self):
        net = Net(2, ((0, 1, ("level", 5)), (0, 1, ("level", 5))))
        for currents, heights in (((SIXTY, -SIXTY), (5, 0)), ((0, 0), (SIXTY, SIXTY - 5)), ((0, 0), (5 - SIXTY, -SIXTY))):
            answer = ("state", currents, heights)
            self.assertEqual(read_answer(net, answer_text(net, answer)), answer)
        for currents, heights in (((LONG, -LONG), (5, 0)), ((0, 0), (LONG, LONG - 5)), ((0, 0), (SIXTY + 5, SIXTY))):
            self.assertIs(is_answer(net, ("state", currents, heights)), True)
            assert_raises(self, InvalidOperation, None, answer_text, net, ("state", currents, heights))
            text = f"currents {currents[0]} {currents[1]}\nheights {heights[0]} {heights[1]}"
            assert_raises(self, ParseError, ("spot", 0), read_answer, net, text)

    def test_no_texts_of_answers(self):
        wrong = ["", "currents", "currents 0 0", "heights 0 0 0", "currents 0 0\nheights 0 0 0\n", "currents 0 0\nheights 0 0", "currents 0\nheights 0 0 0",
                 "heights 0 0 0\ncurrents 0 0", "currents 0 0\n\nheights 0 0 0", "currents 0 0 \nheights 0 0 0", "currents  0 0\nheights 0 0 0",
                 "currents 0 -0\nheights 0 0 0", "currents 0 00\nheights 0 0 0", "currents 0 +0\nheights 0 0 0", "currents 0 x\nheights 0 0 0",
                 "Currents 0 0\nheights 0 0 0", "currents 1 0\nheights 0 0 0", "currents 0 0\nheights 0 1 0", "cut 0", "cut", "loop", "loop 0", "state",
                 "currents 0 0\ncut 0", "cut 0\ncut 0", "currents 0 0 0\nheights 0 0 0", "currents 0 0\nheights 0 0 0\nheights 0 0 0", "currents 0,0\nheights 0 0 0"]
        for text in wrong:
            assert_raises(self, ParseError, ("spot", 0), read_answer, ROW, text)
        self.assertEqual(read_answer(ROW, "currents 0 0\nheights 0 0 0"), ("state", (0, 0), (0, 0, 0)))
        fought = Net(2, ((0, 1, ("level", 4)), (0, 1, BATTERY), (0, 1, ("plumb", 0))))
        wrong = ["loop 0 -1", "loop 1 0", "loop -0 -1", "loop -00 1", "loop - 1", "loop -0  1", "loop --0 1", "loop -0 01", "loop -0 1\n", "loop -0,1", "Loop -0 1",
                 "loop -0 1 -0", "loop -0 3", "cut 0", "cut 0 1", "cut 1 0", "currents 0 0 0\nheights 4 0", "loop 1 -0 ", "loop +1 -0", "loop"]
        for text in wrong:
            assert_raises(self, ParseError, ("spot", 0), read_answer, fought, text)
        cut = Net(3, ((0, 1, ("plumb", 3)), (1, 0, FUSE)))
        for text in ("cut 1", "cut -0", "cut 00", "cut 0 0", "cut 2 0", "cut 0 3", "cut 0\n", "cut  0", "cut 0 ", "cut x", "cut 0,2", "cut"):
            assert_raises(self, ParseError, ("spot", 0), read_answer, cut, text)
        self.assertEqual([read_answer(cut, text) for text in ("cut 0", "cut 0 2")], [("cut", (0,)), ("cut", (0, 2))])

    def test_text_of_another_net(self):
        one, other = Net(2, ((0, 1, BATTERY),)), Net(2, ((0, 1, ("level", 6)),))
        text = answer_text(one, state_or_fight(one))
        assert_raises(self, ParseError, ("spot", 0), read_answer, other, text)
        same = Net(2, ((0, 1, ("flat", ((3, 5),))),))
        self.assertEqual(read_answer(same, text), state_or_fight(one))


class RefusalTests(unittest.TestCase):
    def test_refusals(self):
        no_answers = NO_INTEGERS + [("state", (0, 0), (0, 0, -1)), ("state", (0, False), (0, 0, 0)), ("cut", (0,)), ["state", (0, 0), (0, 0, 0)],
                                    ((0, 0), (0, 0, 0)), ("State", (0, 0), (0, 0, 0)), ("state", (0, 0), (LONG, LONG, LONG)), 0]
        assert_refusals(self, rise_text, [STEPS], {0: (NO_RISES, InvalidRise, None)})
        assert_refusals(self, net_text, [ROW], {0: BAD_NET})
        wrongs = {0: BAD_NET, 1: (no_answers, InvalidOperation, None)}
        assert_refusals(self, answer_text, [ROW, ("state", (0, 0), (0, 0, 0))], wrongs)
        for text in ("currents 0 0\nheights 0 0 0", "", None, ("cut", (0,))):
            assert_refusals(self, read_answer, [ROW, text], {0: BAD_NET})
        self.assertEqual(rise_text(tall("flat", 3, 1, 10 ** 6)).split(" ")[0], "flat")


if __name__ == "__main__":
    unittest.main()
