"""[88], [89], [92]: what there is to ask of works, and the desk that keeps them."""

import random
import unittest

from stoodthen.desk import Desk
from stoodthen.deskasks import DeskAsks
from stoodthen.errors import InvalidEvent, NothingToUndo, Unseen
from stoodthen.growing import grown_nest
from stoodthen.nestkinds import nest_held, nest_tour
from stoodthen.nestrows import row_at
from stoodthen.nets import line_net
from stoodthen.sinks import held_told
from stoodthen.toldanswers import told_stage
from tests import plaindesk, plainnets
from tests.heldsamples import BOTH_SHARED, TIED
from tests.samples import HUGE, NEST, ODD, PAIR, RING, ROW, WIDE, WIDE_NESTS, Promises
from tests.test_deskevents import EVENTS
from tests.test_reasons import LOGS, WORKS

NO_NAMES = (None, True, 0, "", "x", "Ab", (), ["ab"], ("ab",), "abc")
START = (("line", "ab", (), (2, 2)), ("net", "cd", RING, (2, 2, 2), TIED), ("go", "ab", 1))


def filled(events=START):
    desk = Desk()
    desk.do_all(events)
    return desk


def told(function, *arguments):
    """What it returns, or what it raises Unseen with."""
    try:
        return function(*arguments)
    except Unseen as unseen:
        return ("unseen", unseen.place)


class Asks(Promises):

    def test_drawn_works(self):
        for _, desk in LOGS:
            asks = DeskAsks(desk.works())
            self.gives(desk.works(), asks.works)
            self.gives(tuple(sorted(desk.named)), asks.names_now)
            for name in desk.named:
                self.gives(desk.row(name), asks.row_now, name)
                self.gives(desk.stage(name), asks.stage_now, name)
                self.gives(desk.held(name), asks.held_now, name)

    def test_told_stages_are_those_of_the_works(self):
        """[92]: for what the looks see at one moment, told gives stage_now."""
        for _, desk in LOGS:
            asks = DeskAsks(desk.works())
            for name, work in desk.works():
                row = asks.row_now(name)
                seen = tuple(row[dial] for dial in nest_tour(work[1])) if work[0] == "line" else row
                self.gives(asks.stage_now(name), asks.told, name, seen)

    def test_told_of_any_view_and_row(self):
        found = {"told": 0, "unseen": 0}
        for seed, (_, desk) in enumerate(LOGS):
            rng = random.Random(880 + seed)
            asks = DeskAsks(desk.works())
            for name, work in desk.works():
                dials = plaindesk.nest_dials(work[1]) if work[0] == "line" else work[2]
                tour = nest_tour(work[1]) if work[0] == "line" else range(len(dials))
                for _ in range(6):
                    seen = tuple(rng.randrange(dials[dial]) for dial in tour)
                    if work[0] == "line":
                        expected = told(told_stage, work[1], seen)
                    else:
                        expected = told(held_told, *work[1:4], seen)
                    found["unseen" if isinstance(expected, tuple) else "told"] += 1
                    self.assertEqual(told(asks.told, name, seen), expected)
                    if isinstance(expected, tuple):
                        self.fails(Unseen, expected[1:], asks.told, name, seen)
        self.assertGreater(min(found.values()), 30)

    def test_old_told(self):
        nest = ((2,), (2, 2))
        new = grown_nest(grown_nest(nest, 3), 2)
        asks = DeskAsks((("a", ("line", new, 30, 2)), ("b", ("line", new, 30, 1)), ("c", ("line", ((2, 2), ()), 0, 1))))
        for times, older in ((0, new), (1, grown_nest(nest, 3)), (2, nest)):
            for row in plainnets.all_rows([plaindesk.nest_dials(older)[dial] for dial in nest_tour(older)])[::5]:
                expected = told(told_stage, older, row)
                self.assertEqual(told(asks.old_told, "a", times, row), expected)
                if times < 2:
                    self.assertEqual(told(asks.old_told, "b", times, row), expected)
                else:
                    self.refuses("times", asks.old_told, "b", times, row)
        self.gives(1, asks.old_told, "c", 1, (1, 1))
        self.fails(Unseen, (1,), asks.old_told, "c", 1, (1, 0))

    def test_old_views_while_the_first_dials_show_0(self):
        """[92]: for what a watch of the others sees, old_told tells a stage that stood."""
        rng = random.Random(92)
        for nest in (NEST, ((), (2, 3)), ((3,), (2,)), ((2, 2), ()), ((), (4,))):
            new = grown_nest(grown_nest(nest, 3), 2)
            held = nest_held(nest)
            asks = DeskAsks((("a", ("line", new, 0, 2)),))
            for _ in range(60):
                moments = sorted(rng.randrange(held) for _ in nest_tour(nest))
                seen = tuple(row_at(new, moment)[dial + 2] for dial, moment in zip(nest_tour(nest), moments))
                stage = asks.old_told("a", 2, seen)
                self.assertTrue(moments[0] <= stage <= moments[-1])

    def test_holds(self):
        for seed, (_, desk) in enumerate(LOGS[::3]):
            rng = random.Random(890 + seed)
            asks = DeskAsks(desk.works())
            for _ in range(12):
                claim = plaindesk.random_claim(rng, desk, 3)
                self.gives(desk.holds(claim), asks.holds, claim)

    def test_wide(self):
        for nest in WIDE_NESTS:
            last = nest_held(nest) - 1
            asks = DeskAsks((("a", ("line", nest, last, 0)),))
            row = asks.row_now("a")
            self.gives(row_at(nest, last), asks.row_now, "a")
            self.gives(last + 1, asks.held_now, "a")
            self.gives(last, asks.told, "a", tuple(row[dial] for dial in nest_tour(nest)))
        asks = DeskAsks((("a", ("line", (WIDE, ()), 5, 198)),))
        self.gives(1, asks.old_told, "a", 198, (1, 1))
        row = row_at((WIDE[190:], ()), 5)
        self.gives(5, asks.old_told, "a", 190, row + row[::-1])

    def test_refused(self):
        for wrong in (None, True, 0, "", [], list(WORKS), WORKS[::-1], (("ab", None),)):
            self.refuses("works", DeskAsks, wrong)
        asks = DeskAsks(WORKS)
        for name in NO_NAMES:
            for function in (asks.row_now, asks.stage_now, asks.held_now):
                self.refuses("name", function, name)
            self.refuses("name", asks.told, name, None)
            self.refuses("name", asks.old_told, name, None, None)
        for wrong in (None, True, 0, (), (0, 0), (0, 0, 2), (0, 0, True), [0, 0, 0], (0, 0, 0, 0)):
            self.refuses("seen", asks.told, "ab", wrong)
            self.refuses("seen", asks.told, "cd", wrong)
        self.refuses("name", asks.old_told, "cd", 0, (0, 0, 0))
        for wrong in (None, True, -1, 2, "0", ()):
            self.refuses("times", asks.old_told, "ab", wrong, (0,))
            self.refuses("times", asks.old_told, "ab", wrong, None)
        for wrong in (None, True, 0, (), (0, 0), (0, 0, 0), (2,), (True,), [0]):
            self.refuses("view", asks.old_told, "ab", 1, wrong)
        self.refuses("view", asks.old_told, "ab", 0, (0,))
        for wrong in (*ODD, ("at", "ab")):
            self.refuses("claim", asks.holds, wrong)

    def test_no_works(self):
        asks = DeskAsks(())
        self.gives((), asks.works)
        self.gives((), asks.names_now)
        self.gives(False, asks.holds, ("at", "a", 0))
        self.refuses("name", asks.stage_now, "a")


class Desks(Promises):

    def state(self, desk):
        return desk.works(), desk.log()

    def test_example(self):
        desk = Desk()
        desk.do_all((("line", "ab", (), (2, 2)), ("go", "ab", 2), ("grow", "ab", 2)))
        self.gives((0, 1, 1), desk.row_now, "ab")
        self.gives(2, desk.told, "ab", (0, 1, 1, 0))
        self.gives(0, desk.old_told, "ab", 1, (0, 1))

    def test_begins_without_works(self):
        desk = Desk()
        self.assertIsInstance(desk, DeskAsks)
        self.assertEqual(self.state(desk), ((), ()))
        self.gives((), desk.names_now)

    def test_drawn_logs(self):
        for log, last in LOGS:
            desk, again = Desk(), plaindesk.Desk()
            for place, event in enumerate(log):
                again.do(event)
                self.assertIsNone(desk.put(event))
                self.assertEqual(self.state(desk), (again.works(), log[:place + 1]))
            self.assertEqual(desk.works(), last.works())

    def test_methods_put_events(self):
        desk, other = Desk(), Desk()
        for event in (*START, ("pass", "cd", 2), ("grow", "ab", 3), ("hang", "cd", 2, ROW, (3,), BOTH_SHARED),
                      ("day",), ("drop", "ab")):
            word, *rest = event
            method = {"line": desk.open_line, "net": desk.open_net, "go": desk.go, "pass": desk.pass_to,
                      "grow": desk.grow,
                      "hang": desk.hang, "drop": desk.drop, "day": desk.day}[word]
            self.assertIsNone(method(*rest))
            other.put(event)
            self.assertEqual(self.state(desk), self.state(other))
            self.assertEqual(desk.log()[-1], event)

    def test_methods_take_any_values(self):
        desk = filled()
        before = self.state(desk)
        things = (None, True, -1, "x y", [], ((),), [0], (2,))
        for method, word, many in ((desk.open_line, "line", 3), (desk.open_net, "net", 4), (desk.go, "go", 2),
                                   (desk.pass_to, "pass", 2),
                                   (desk.grow, "grow", 2), (desk.hang, "hang", 5), (desk.drop, "drop", 1)):
            for thing in things:
                self.fails(InvalidEvent, ((word, *[thing] * many), "shape"), method, *[thing] * many)
                self.assertEqual(self.state(desk), before)
        for thing in ODD:
            self.fails(InvalidEvent, (thing, "shape"), desk.put, thing)
            self.gives("shape", desk.barred, thing)
        for method, arguments, event, reason in (
                (desk.open_line, ("ab", (), (2,)), ("line", "ab", (), (2,)), "name"),
                (desk.open_net, ("ab", PAIR, (2,), (("dial", 0),)), ("net", "ab", PAIR, (2,), (("dial", 0),)), "name"),
                (desk.go, ("cd", 1), ("go", "cd", 1), "line"), (desk.go, ("ab", 2), ("go", "ab", 2), "room"),
                (desk.grow, ("cd", 2), ("grow", "cd", 2), "line"),
                (desk.grow, ("ab", 10 ** 60), ("grow", "ab", 10 ** 60), "size"),
                (desk.pass_to, ("ab", 1), ("pass", "ab", 1), "net"),
                (desk.pass_to, ("cd", 0), ("pass", "cd", 0), "tie"),
                (desk.hang, ("cd", 3, PAIR, (2,), (("dial", 0),)), ("hang", "cd", 3, PAIR, (2,), (("dial", 0),)),
                 "stage"),
                (desk.drop, ("x",), ("drop", "x"), "name")):
            self.fails(InvalidEvent, (event, reason), method, *arguments)
            self.gives(reason, desk.barred, event)
            self.assertEqual(self.state(desk), before)
        event = ["day"]
        with self.assertRaises(InvalidEvent) as caught:
            desk.put(event)
        self.assertIs(caught.exception.event, event)
        name = object()
        with self.assertRaises(InvalidEvent) as caught:
            desk.drop(name)
        self.assertIs(caught.exception.event[1], name)

    def test_barred(self):
        for seed, (log, last) in enumerate(LOGS[::2]):
            rng = random.Random(895 + seed)
            desk = filled(log)
            for _ in range(10):
                event = plaindesk.random_event(rng, last)
                self.gives(last.reason(event), desk.barred, event)
        self.assertEqual([filled().barred(event) for event in EVENTS[:3]], ["name", None, None])

    def test_do_all(self):
        desk = filled()
        before = self.state(desk)
        wrong = ("go", "ab", 9)
        for bad, reason in ((wrong, "room"), (None, "shape"), (("drop", "x"), "name"), (("pass", "cd", 1), "tie"),
                            ([], "shape")):
            events = (("go", "ab", 1), ("pass", "cd", 1), bad, ("day",), None)
            self.fails(InvalidEvent, (bad, reason), desk.do_all, events)
            self.assertEqual(self.state(desk), before)
            self.fails(InvalidEvent, (bad, reason), desk.do_all, events, False)
            self.assertEqual(self.state(desk), before)
            kept = filled()
            self.fails(InvalidEvent, (bad, reason), kept.do_all, events, True)
            self.assertEqual(self.state(kept), self.state(filled((*START, *events[:2]))))
            self.assertRaises(InvalidEvent, filled().do_all, events=events, keep=True)
        self.assertIsNone(desk.do_all(()))
        self.assertIsNone(desk.do_all((), True))
        self.assertEqual(self.state(desk), before)
        self.fails(InvalidEvent, (None, "shape"), desk.do_all, (None,))
        self.fails(InvalidEvent, (None, "shape"), desk.do_all, (None,), True)
        self.assertEqual(self.state(desk), before)

    def test_do_all_refuses(self):
        desk = filled()
        for wrong in (None, True, 0, "", [], [("day",)], "day", {}):
            self.refuses("events", desk.do_all, wrong)
            self.refuses("events", desk.do_all, wrong, None)
            self.refuses("events", desk.tried, wrong)
        for wrong in (None, 0, 1, "", (), [], "True"):
            self.refuses("keep", desk.do_all, (("day",),), wrong)
            self.refuses("keep", desk.do_all, (None,), wrong)
        self.assertEqual(self.state(desk), self.state(filled()))

    def test_undo(self):
        for log, _ in LOGS[::2]:
            many = len(log)
            for steps in (1, 2, many // 2, many):
                desk = filled(log)
                self.assertIsNone(desk.undo(steps))
                self.assertEqual(self.state(desk), self.state(filled(log[:many - steps])))
                desk.do_all(log[many - steps:])
                self.assertEqual(self.state(desk), self.state(filled(log)))
            desk = filled(log)
            for place in range(many, 0, -1):
                desk.undo()
                self.assertEqual(desk.log(), log[:place - 1])
            self.assertEqual(desk.works(), ())

    def test_undo_of_too_many(self):
        desk = filled()
        before = self.state(desk)
        for steps in (4, 5, 10 ** 60):
            self.fails(NothingToUndo, (steps,), desk.undo, steps)
            self.assertEqual(self.state(desk), before)
        for wrong in (None, True, 0, -1, "1", (), [1]):
            self.refuses("steps", desk.undo, wrong)
        self.fails(NothingToUndo, (1,), Desk().undo)
        self.fails(NothingToUndo, (2,), Desk().undo, 2)
        desk.undo(steps=3)
        self.assertEqual(self.state(desk), ((), ()))

    def test_tried(self):
        for log, last in LOGS[::3]:
            desk = filled(log[:9])
            before = self.state(desk)
            self.gives(last.works(), desk.tried, log[9:])
            self.assertEqual(self.state(desk), before)
            self.gives(before[0], desk.tried, ())
        desk = filled()
        before = self.state(desk)
        for bad, reason in ((("go", "ab", 9), "room"), (None, "shape"), (("day",) * 2, "shape")):
            self.fails(InvalidEvent, (bad, reason), desk.tried, (("go", "ab", 1), bad, None))
        self.assertEqual(self.state(desk), before)

    def test_equal(self):
        self.assertTrue(Desk() == Desk())
        self.assertTrue(filled() == filled())
        for log, _ in LOGS[:6]:
            self.assertTrue(filled(log) == filled(log))
            self.assertFalse(filled(log) == filled(log[:-1]))
        desk = filled((("line", "ab", (), (2, 2)), ("net", "cd", RING, (2, 2, 2), TIED), ("go", "ab", 1)))
        self.assertTrue(desk == filled())
        desk.day()
        # The works are the same, the logs are not.
        self.assertEqual(desk.works(), filled().works())
        self.assertFalse(desk == filled())
        self.assertTrue(desk != filled())
        desk.undo()
        self.assertTrue(desk == filled())
        for other in (None, True, (), 0, START, DeskAsks(filled().works()), filled().log(), filled().works()):
            self.assertFalse(filled() == other)
            self.assertTrue(filled() != other)
        self.assertFalse(Desk() == DeskAsks(()))
        self.assertFalse(DeskAsks(()) == Desk())

    def test_desks_do_not_share(self):
        one, other = Desk(), Desk()
        one.open_line("ab", (), (2,))
        self.assertEqual(self.state(other), ((), ()))
        log = one.log()
        one.day()
        self.assertEqual(log, (("line", "ab", (), (2,)),))

    def test_grown_up_to_the_limits(self):
        desk = Desk()
        desk.open_line("ab", (), (2,))
        desk.do_all((("go", "ab", 1),) + tuple(("grow", "ab", 2) for _ in range(198)))
        self.fails(InvalidEvent, (("grow", "ab", 2), "size"), desk.grow, "ab", 2)
        self.gives((0,) * 198 + (1,), desk.row_now, "ab")
        self.gives(2 ** 199, desk.held_now, "ab")
        self.gives(1, desk.told, "ab", (0,) * 198 + (1,) + (0,) * 198)
        for times in (0, 1, 99, 198):
            self.gives(1, desk.old_told, "ab", times, (0,) * (198 - times) + (1,) + (0,) * (198 - times))
        desk.go("ab", 2 ** 199 - 2)
        self.fails(InvalidEvent, (("go", "ab", 1), "room"), desk.go, "ab", 1)
        self.assertEqual(desk.stage_now("ab"), 2 ** 199 - 1)
        self.gives(True, desk.holds, ("room", "ab", 0))
        self.gives(False, desk.holds, ("room", "ab", 1))
        desk.open_line("ac", HUGE, ())
        self.fails(InvalidEvent, (("grow", "ac", 2), "size"), desk.grow, "ac", 2)

    def test_hung_up_to_the_limits(self):
        desk = Desk()
        desk.open_net("n", (1, ()), (2,), ())
        for _ in range(11):
            desk.hang("n", desk.held_now("n") - 1, PAIR, (2, 2), (("dial", 1),))
            desk.pass_to("n", desk.held_now("n") - 1)
        self.assertEqual((desk.held_now("n"), desk.stage_now("n")), (12, 11))
        self.gives((0, *(0, 1) * 11), desk.row_now, "n")
        self.gives(11, desk.told, "n", (0, *(0, 1) * 11))
        event = ("hang", "n", 0, PAIR, (2,), (("dial", 0),))
        self.fails(InvalidEvent, (event, "size"), desk.put, event)
        self.gives(None, desk.barred, ("hang", "n", 11, (1, ()), (2,), ()))
        self.gives("size", desk.barred, ("hang", "n", 11, (1, ()), (2, 2), ()))
        self.assertEqual(desk.works()[0][1][1], line_net(12))

    def test_sixty_events(self):
        desk = Desk()
        for place in range(60):
            desk.open_line(chr(97 + place % 26) * (1 + place // 26), (2,), (3,))
        self.assertEqual(list(desk.names_now()), sorted(desk.names_now()))
        desk.undo(60)
        self.assertEqual(self.state(desk), ((), ()))


if __name__ == "__main__":
    unittest.main()
