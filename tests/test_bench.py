"""Stage 21: a bench."""

import itertools
import unittest

from helpers import (
    BATTERY, DIODE, FUSE, LONG, NETS, NO_INTEGERS, NO_NETS, NO_RISES, ODD, ODD_TUPLES, SIXTY, STAIRS, STEPS,
    assert_raises, dressed_nets, plain_net, spread, stair)
from risenets.change.one import moved_net, with_rise
from risenets.ends.boxes import put_in
from risenets.errors import (
    InvalidNet, InvalidNumber, InvalidOperation, InvalidText, NothingToUndo, TooMany, UnknownName)
from risenets.net.nets import Net
from risenets.state.states import is_answer, state_or_fight
from risenets.talk import bench as module
from risenets.talk.bench import Bench

LAMP = Net(3, ((0, 1, BATTERY), (1, 2, DIODE), (2, 0, STAIRS)))
ROW = Net(3, ((0, 1, FUSE), (1, 2, DIODE)))
JAM = Net(2, ((0, 1, BATTERY), (0, 1, ("level", 4)), (0, 1, FUSE)))
NO_NAMES = [value for value in ODD + ODD_TUPLES if value not in ("level", "flat")] + [
    "Lamp", "lamp1", "lamp ", " lamp", "la mp", "lamplight", "abcdefghi", "lamp\n", "l-p", "l_p", 0, ("lamp",), ["lamp"], b"lamp", "LAMP", LONG]


def bench_of(**nets):
    """A bench with these nets."""
    bench = Bench()
    for name, net in nets.items():
        bench.put(name, net)
    return bench


def picture(bench):
    """All that can be seen of a bench at its place."""
    return [str(bench), bench.names, [(bench.net_of(name).knots, bench.net_of(name).wires, bench.last(name)) for name in bench.names]]


class EditTests(unittest.TestCase):
    def test_constants(self):
        self.assertEqual((module.MOST_NETS, module.MOST_NAME), (12, 8))

    def test_put_and_drop(self):
        bench = Bench()
        self.assertEqual((len(bench), bench.names, str(bench)), (0, (), "bench of 0 nets, 0 steps"))
        self.assertIsNone(bench.put("lamp", LAMP))
        self.assertIsNone(bench.put("a", ROW))
        self.assertEqual((len(bench), bench.names, str(bench)), (2, ("a", "lamp"), "bench of 2 nets, 2 steps"))
        self.assertEqual((bench.net_of("lamp"), bench.net_of("a")), (LAMP, ROW))
        bench.put("a", LAMP)
        self.assertEqual((bench.net_of("a"), len(bench)), (LAMP, 2))
        self.assertIsNone(bench.drop("lamp"))
        self.assertEqual((bench.names, str(bench)), (("a",), "bench of 1 nets, 4 steps"))
        assert_raises(self, UnknownName, ("wanted", "lamp"), bench.net_of, "lamp")
        self.assertEqual("lamp" in bench, False)

    def test_wires(self):
        bench = bench_of(lamp=LAMP)
        self.assertIsNone(bench.join("lamp", 2, 1, FUSE))
        self.assertEqual(bench.net_of("lamp"), Net(3, LAMP.wires + ((2, 1, FUSE),)))
        self.assertIsNone(bench.cut("lamp", 1))
        self.assertEqual(bench.net_of("lamp"), Net(3, (LAMP.wires[0], LAMP.wires[2], (2, 1, FUSE))))
        self.assertIsNone(bench.turn_to("lamp", 2, STEPS))
        self.assertEqual(bench.net_of("lamp").wires[2], (2, 1, STEPS))
        self.assertIsNone(bench.move("lamp", 0, 3, -7))
        self.assertEqual(bench.net_of("lamp").wires[0], (0, 1, ("level", -2)))
        self.assertEqual(str(bench), "bench of 1 nets, 5 steps")

    def test_as_of_the_functions(self):
        for at, net in enumerate([net for net in dressed_nets(NETS, 2) if len(net) and net.knots < 6]):
            wire, rise = at % len(net), (STEPS, FUSE, BATTERY)[at % 3]
            bench = bench_of(a=net)
            bench.turn_to("a", wire, rise)
            self.assertEqual(bench.net_of("a"), with_rise(net, wire, rise))
            bench.undo()
            bench.move("a", wire, 2, -3)
            self.assertEqual(bench.net_of("a"), moved_net(net, wire, 2, -3))

    def test_box_in(self):
        bench = bench_of(lamp=LAMP, row=ROW)
        self.assertIsNone(bench.box_in("lamp", 1, "row", 2, 0))
        self.assertEqual(bench.net_of("lamp"), put_in(LAMP, 1, (ROW, 2, 0)))
        self.assertEqual(bench.net_of("row"), ROW)
        bench.box_in("lamp", 0, "lamp", 1, 2)
        whole = put_in(LAMP, 1, (ROW, 2, 0))
        self.assertEqual(bench.net_of("lamp"), put_in(whole, 0, (whole, 1, 2)))
        self.assertEqual(str(bench), "bench of 2 nets, 4 steps")
        bench.turn_to("row", 0, BATTERY)
        self.assertEqual(bench.net_of("lamp"), put_in(whole, 0, (whole, 1, 2)))

    def test_twelve_names(self):
        bench = Bench()
        for name in "abcdefghijkl":
            bench.put(name, ROW)
        for name in ("m", "abcdefgh"):
            assert_raises(self, TooMany, ("limit", 12), bench.put, name, ROW)
            assert_raises(self, InvalidNet, None, bench.put, name, None)
        assert_raises(self, InvalidText, None, bench.put, "abcdefghi", ROW)
        bench.put("c", LAMP)
        bench.drop("a")
        bench.put("abcdefgh", ROW)
        self.assertEqual(bench.names, ("abcdefgh",) + tuple("bcdefghijkl"))


class UndoTests(unittest.TestCase):
    def test_there_and_back(self):
        bench = bench_of(lamp=LAMP, row=ROW)
        edits = [lambda: bench.turn_to("lamp", 0, ("plumb", 1)), lambda: bench.drop("row"), lambda: bench.join("lamp", 0, 2, FUSE),
                 lambda: bench.put("row", JAM), lambda: bench.cut("row", 0), lambda: bench.move("lamp", 2, 1, 1), lambda: bench.box_in("lamp", 2, "row", 0, 1)]
        pictures = [picture(bench)]
        for edit in edits:
            edit()
            if len(pictures) % 2:
                [bench.answer(name) for name in bench.names]
            pictures.append(picture(bench))
        for wanted in pictures[-2::-1]:
            self.assertIsNone(bench.undo())
            self.assertEqual(picture(bench), wanted)
        for wanted in pictures[1:]:
            self.assertIsNone(bench.redo())
            self.assertEqual(picture(bench), wanted)
        assert_raises(self, NothingToUndo, ("done", -1), bench.redo)

    def test_nothing_to_undo(self):
        bench = Bench()
        assert_raises(self, NothingToUndo, ("done", 1), bench.undo)
        assert_raises(self, NothingToUndo, ("done", -1), bench.redo)
        bench.put("a", ROW)
        assert_raises(self, NothingToUndo, ("done", -1), bench.redo)
        bench.undo()
        assert_raises(self, NothingToUndo, ("done", 1), bench.undo)
        self.assertEqual((len(bench), str(bench)), (0, "bench of 0 nets, 0 steps"))
        bench.redo()
        self.assertEqual((bench.names, str(bench)), (("a",), "bench of 1 nets, 1 steps"))

    def test_an_edit_ends_what_could_be_redone(self):
        bench = bench_of(a=ROW, b=LAMP, c=JAM)
        bench.undo(), bench.undo()
        bench.put("d", JAM)
        assert_raises(self, NothingToUndo, ("done", -1), bench.redo)
        self.assertEqual((bench.names, str(bench)), (("a", "d"), "bench of 2 nets, 2 steps"))
        bench.undo()
        assert_raises(self, UnknownName, ("wanted", "b"), bench.drop, "b")
        bench.redo()
        self.assertEqual(bench.names, ("a", "d"))

    def test_calls_that_tell_are_no_edits(self):
        bench = bench_of(a=ROW, b=LAMP)
        bench.undo()
        bench.answer("a"), bench.last("a"), bench.net_of("a"), bench.names, len(bench), str(bench), "a" in bench
        bench.redo()
        self.assertEqual((bench.names, bench.last("a")), (("a", "b"), None))


class AnswerTests(unittest.TestCase):
    def test_answers_are_kept(self):
        bench = bench_of(lamp=LAMP, jam=JAM)
        for name, net in (("lamp", LAMP), ("jam", JAM)):
            self.assertIsNone(bench.last(name))
            told = bench.answer(name)
            self.assertIs(is_answer(net, told), True)
            self.assertEqual((bench.last(name), bench.answer(name)), (told, told))

    def test_a_state_lasts(self):
        bench = bench_of(lamp=LAMP)
        told = bench.answer("lamp")
        bench.turn_to("lamp", 1, ("flat", ((0, -4),)))
        self.assertEqual(told, ("state", (0, 0, 0), told[2]))
        bench.turn_to("lamp", 1, ("plumb", 0))
        self.assertEqual((bench.last("lamp"), bench.answer("lamp")), (told, told))
        bench.turn_to("lamp", 0, ("plumb", 1))
        self.assertIsNone(bench.last("lamp"))
        other = bench.answer("lamp")
        self.assertIs(is_answer(bench.net_of("lamp"), other), True)
        self.assertNotEqual(other, told)
        bench.undo()
        self.assertEqual(bench.answer("lamp"), told)
        bench.redo()
        self.assertEqual(bench.last("lamp"), other)

    def test_an_answer_that_does_not_last_is_kept_until_another_is_told(self):
        bench = bench_of(lamp=LAMP)
        told = bench.answer("lamp")
        bench.turn_to("lamp", 0, ("plumb", 1))
        self.assertIsNone(bench.last("lamp"))
        bench.turn_to("lamp", 0, BATTERY)
        self.assertEqual((bench.last("lamp"), bench.answer("lamp")), (told, told))

    def test_a_fight_lasts(self):
        bench = bench_of(jam=JAM)
        told = bench.answer("jam")
        self.assertEqual(told[0], "loop")
        bench.move("jam", 0, 0, 9)
        self.assertEqual(bench.answer("jam"), told)
        bench.cut("jam", 2)
        self.assertEqual(bench.last("jam"), told)
        bench.join("jam", 0, 1, ("plumb", 3))
        self.assertEqual(bench.answer("jam"), told)
        bench.turn_to("jam", 0, ("level", 4))
        self.assertEqual((bench.last("jam"), bench.answer("jam")[0]), (None, "state"))

    def test_a_wire_more_or_less(self):
        bench = bench_of(lamp=LAMP)
        told = bench.answer("lamp")
        bench.join("lamp", 0, 1, FUSE)
        self.assertIsNone(bench.last("lamp"))
        bench.cut("lamp", 3)
        self.assertEqual(bench.last("lamp"), told)

    def test_put_anew(self):
        bench = bench_of(lamp=LAMP)
        told = bench.answer("lamp")
        bench.put("lamp", Net(3, LAMP.wires[:2] + ((2, 0, ("plumb", 0)),)))
        self.assertEqual(bench.last("lamp"), told)
        bench.put("lamp", ROW)
        self.assertIsNone(bench.last("lamp"))
        bench.put("other", LAMP)
        self.assertIsNone(bench.last("other"))

    def test_dropped(self):
        bench = bench_of(lamp=LAMP)
        told = bench.answer("lamp")
        bench.drop("lamp")
        bench.put("lamp", LAMP)
        self.assertIsNone(bench.last("lamp"))
        bench.undo(), bench.undo()
        self.assertEqual(bench.last("lamp"), told)
        bench.redo(), bench.redo()
        self.assertIsNone(bench.last("lamp"))

    def test_answers_are_those_of_the_place(self):
        bench = bench_of(lamp=LAMP, row=ROW)
        told = bench.answer("lamp")
        bench.undo()
        self.assertIsNone(bench.last("lamp"))
        bench.redo()
        self.assertEqual(bench.last("lamp"), told)
        bench.undo()
        bench.answer("lamp")
        bench.put("jam", JAM)
        self.assertEqual(bench.last("lamp"), bench.answer("lamp"))
        self.assertIsNone(bench.last("jam"))

    def test_through_many_edits(self):
        """Whatever is told is right, and is told again as long as it is right."""
        nets = [net for net in dressed_nets(NETS, 2) if 1 < net.knots < 6 and len(net)]
        lasted = 0
        for at, net in enumerate(nets):
            bench, kept = bench_of(a=net), None
            for step, number in enumerate(spread(12, 500, at)):
                now = bench.net_of("a")
                wire = abs(number) % max(1, len(now))
                if step % 3 == 0 and len(now):
                    bench.move("a", wire, number % 3 - 1, number % 2)
                elif step % 3 == 1 and len(now):
                    bench.turn_to("a", wire, (FUSE, STEPS, BATTERY, ("plumb", 0))[number % 4])
                elif len(now) < 8:
                    bench.join("a", number % now.knots, (number + 1) % now.knots, (DIODE, FUSE)[number % 2])
                now = bench.net_of("a")
                right = kept is not None and is_answer(now, kept)
                self.assertEqual(bench.last("a"), kept if right else None)
                lasted += right
                if step % 2:
                    told = bench.answer("a")
                    self.assertIs(is_answer(now, told), True)
                    self.assertEqual(told, kept if right else state_or_fight(now))
                    kept = told
        self.assertGreater(lasted, 30)


class ObjectTests(unittest.TestCase):
    def test_methods_stand_in_the_class(self):
        for name in """__init__ __len__ __eq__ __str__ __contains__ put drop join cut turn_to move box_in undo redo net_of answer last
                names""".split():
            self.assertIn(name, vars(Bench))
        self.assertEqual(Bench.__module__, "risenets.talk.bench")
        with self.assertRaises(AttributeError):
            Bench().names = ()

    def test_in(self):
        bench = bench_of(lamp=LAMP)
        self.assertIs("lamp" in bench, True)
        for value in NO_NAMES + ["a", "lam", ("lamp",), LAMP, bench]:
            self.assertIs(value in bench, False)
            self.assertIs(value not in bench, True)

    def test_equal(self):
        one, other = bench_of(a=ROW, b=LAMP), bench_of(b=LAMP, a=ROW)
        self.assertTrue(one == other)
        self.assertFalse(one != other)
        one.answer("a")
        one.turn_to("a", 0, BATTERY)
        self.assertFalse(one == other)
        one.undo()
        self.assertTrue(one == other)
        for bench in (Bench(), bench_of(a=ROW), bench_of(a=ROW, c=LAMP), bench_of(a=LAMP, b=ROW), bench_of(a=ROW, b=LAMP, c=LAMP)):
            self.assertFalse(one == bench)
            self.assertTrue(one != bench)
        self.assertTrue(Bench() == Bench())
        for value in ODD + [(), {"a": ROW, "b": LAMP}, ("a", "b")]:
            self.assertFalse(one == value)
            self.assertTrue(one != value)

    def test_no_iteration(self):
        with self.assertRaises(TypeError):
            iter(bench_of(a=ROW))
        with self.assertRaises(TypeError):
            list(bench_of(a=ROW))

    def test_benches_share_nothing(self):
        one, other = Bench(), Bench()
        one.put("a", ROW)
        self.assertEqual((len(one), len(other), str(other)), (1, 0, "bench of 0 nets, 0 steps"))
        one.names
        self.assertEqual(ROW, Net(3, ((0, 1, FUSE), (1, 2, DIODE))))


class RefusalTests(unittest.TestCase):
    def setUp(self):
        self.bench = bench_of(lamp=LAMP, row=ROW, far=Net(12, ()), many=plain_net(2, ((0, 1),) * 24))
        self.bench.put("gone", ROW)
        self.bench.answer("lamp")
        self.bench.undo()

    def refuse(self, error, kept, method, *arguments):
        """The call raises the error, and changes nothing, not even what can be redone."""
        before = picture(self.bench)
        assert_raises(self, error, kept, getattr(self.bench, method), *arguments)
        self.assertEqual(picture(self.bench), before)
        self.bench.redo()
        self.assertIn("gone", self.bench)
        self.bench.undo()

    def test_put(self):
        for name in NO_NAMES:
            self.refuse(InvalidText, None, "put", name, ROW)
        for net in NO_NETS + [self.bench]:
            self.refuse(InvalidNet, None, "put", "lamp", net)
        self.refuse(InvalidText, None, "put", "", None)
        for name in ("a", "abcdefgh", "level", "none", "true"):
            self.bench.put(name, ROW)
            self.assertIn(name, self.bench)
        self.assertEqual(len(self.bench), 9)

    def test_unknown_names(self):
        calls = {"drop": (), "join": (0, 1, FUSE), "cut": (0,), "turn_to": (0, FUSE), "move": (0, 1, 1), "box_in": (0, "row", 0, 1), "net_of": (), "answer": (),
                 "last": ()}
        for method, more in calls.items():
            for name in NO_NAMES + ["gone", "a"]:
                self.refuse(UnknownName, ("wanted", name), method, name, *more)
                self.refuse(UnknownName, ("wanted", name), method, name, *[None for _ in more])
        for name in NO_NAMES + ["gone", "a"]:
            self.refuse(UnknownName, ("wanted", name), "box_in", "lamp", 0, name, 0, 1)
            self.refuse(UnknownName, ("wanted", name), "box_in", "lamp", 0, name, None, None)

    def test_join(self):
        for knot in NO_INTEGERS + [-1, 3]:
            self.refuse(InvalidNumber, ("given", knot), "join", "lamp", knot, 1, FUSE)
            self.refuse(InvalidNumber, ("given", knot), "join", "lamp", 0, knot, None)
            self.refuse(InvalidNumber, ("given", knot), "join", "lamp", knot, -1, None)
        for rise in NO_RISES + [stair("flat", 41), ("level", 10 ** 12 + 1)]:
            self.refuse(InvalidNet, None, "join", "lamp", 0, 1, rise)
        self.refuse(InvalidNet, None, "join", "lamp", 1, 1, FUSE)
        self.refuse(InvalidNet, None, "join", "many", 0, 1, FUSE)

    def test_wires(self):
        for wire in NO_INTEGERS + [-1, 3]:
            for method, more in (("cut", ()), ("turn_to", (FUSE,)), ("turn_to", (None,)), ("move", (0, 0)), ("move", (None, None)),
                                 ("box_in", ("row", 0, 1)), ("box_in", ("a", None, None))):
                self.refuse(InvalidNumber, ("given", wire), method, "lamp", wire, *more)
        for rise in NO_RISES + [stair("flat", 41), ("level", 10 ** 12 + 1)]:
            self.refuse(InvalidNet, None, "turn_to", "lamp", 0, rise)
        self.refuse(InvalidNumber, ("given", 0), "cut", "far", 0)

    def test_move(self):
        for number in NO_INTEGERS:
            self.refuse(InvalidNumber, ("given", number), "move", "lamp", 0, number, 0)
            self.refuse(InvalidNumber, ("given", number), "move", "lamp", 0, SIXTY, number)
            self.refuse(InvalidNumber, ("given", number), "move", "lamp", 0, number, None)
        for right, up in ((0, 10 ** 12), (0, -10 ** 13), (SIXTY, SIXTY)):
            self.refuse(InvalidNet, None, "move", "lamp", 0, right, up)
        self.bench.move("lamp", 0, SIXTY, 0)
        self.assertEqual(self.bench.net_of("lamp"), LAMP)

    def test_box_in(self):
        for knot in NO_INTEGERS + [-1, 3]:
            self.refuse(InvalidNumber, ("given", knot), "box_in", "lamp", 0, "row", knot, 0)
            self.refuse(InvalidNumber, ("given", knot), "box_in", "lamp", 0, "row", 1, knot)
            self.refuse(InvalidNumber, ("given", knot), "box_in", "lamp", 0, "row", knot, None)
        self.refuse(InvalidNumber, ("given", 2), "box_in", "lamp", 0, "many", 0, 2)
        self.refuse(InvalidOperation, None, "box_in", "lamp", 0, "row", 1, 1)
        self.refuse(InvalidOperation, None, "box_in", "lamp", 0, "far", 1, 1)
        self.refuse(TooMany, ("limit", 12), "box_in", "lamp", 0, "far", 0, 1)
        self.refuse(TooMany, ("limit", 24), "box_in", "lamp", 0, "many", 0, 1)
        self.bench.box_in("lamp", 2, "row", 11 - 11, 1)
        self.assertEqual(self.bench.net_of("lamp").knots, 4)

    def test_undo_and_redo_change_nothing_where_they_cannot(self):
        bench = bench_of(a=ROW)
        bench.undo()
        for _ in range(3):
            assert_raises(self, NothingToUndo, ("done", 1), bench.undo)
        bench.redo()
        for _ in range(3):
            assert_raises(self, NothingToUndo, ("done", -1), bench.redo)
        self.assertEqual((bench.names, str(bench)), (("a",), "bench of 1 nets, 1 steps"))


class LongTests(unittest.TestCase):
    def test_many_steps(self):
        bench = bench_of(a=ROW)
        for k in range(300):
            bench.move("a", 0, 1, 0)
        self.assertEqual((str(bench), bench.net_of("a").wires[0][2]), ("bench of 1 nets, 301 steps", ("steep", ((298, 0), (302, 0)))))
        for _ in range(300):
            bench.undo()
        self.assertEqual((str(bench), bench.net_of("a")), ("bench of 1 nets, 1 steps", ROW))
        for _ in range(150):
            bench.redo()
        self.assertEqual(bench.net_of("a").wires[0][2], ("steep", ((148, 0), (152, 0))))

    def test_names_are_letters_alone(self):
        for letters in itertools.product("azAZ0`{", repeat=2):
            name, bench = "".join(letters), Bench()
            if set(letters) <= {"a", "z"}:
                bench.put(name, ROW)
                self.assertIn(name, bench)
            else:
                assert_raises(self, InvalidText, None, bench.put, name, ROW)


if __name__ == "__main__":
    unittest.main()
