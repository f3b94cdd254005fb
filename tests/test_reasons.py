"""[85], [86]: works, why events are barred, and what events make of works."""

import random
import unittest

from stoodthen.errors import InvalidEvent
from stoodthen.nets import line_net, ring_net
from stoodthen.reasons import is_works, reason_of
from stoodthen.stepping import stepped
from tests import plaindesk, plainnets
from tests.heldsamples import BOTH_SHARED, HELD, TIED
from tests.samples import HUGE, NEST, ODD, PAIR, RING, ROW, SMALL_NESTS, WIDE, Promises
from tests.test_deskevents import EVENTS

LINE = ("line", NEST, 2, 1)
NET = ("net", RING, (2, 2, 2), TIED, (1, 0, 0), 1, 0)
WORKS = (("ab", LINE), ("cd", NET))
LOGS = [plaindesk.random_log(random.Random(seed), 36) for seed in range(24)]


def without(thing, place, entry):
    return (*thing[:place], entry, *thing[place + 1:])


class Works(Promises):

    def test_works(self):
        for works in ((), WORKS, WORKS[:1], WORKS[1:], (("a", LINE), ("aa", LINE), ("b", LINE)),
                      tuple((name, LINE) for name in sorted(chr(97 + k % 26) * (1 + k // 26) for k in range(60)))):
            self.gives(True, is_works, works)
        for thing in ODD:
            self.gives(isinstance(thing, tuple) and thing == (), is_works, thing)
            self.gives(False, is_works, (thing,))
            self.gives(False, is_works, (*WORKS, thing))
            self.gives(False, is_works, (("ab", thing),))
            if thing != "look":
                self.gives(False, is_works, (("ab", LINE), (thing, LINE)))
        for works in (WORKS[::-1], (WORKS[0], WORKS[0]), list(WORKS), (("ab", LINE, 0),), (("Ab", LINE),), (("ab",),),
                      (["ab", LINE],),
                      (("ab", list(LINE)),), (("b", LINE), ("aa", LINE)), (("a", NET), ("a", LINE)), {"ab": LINE}):
            self.gives(False, is_works, works)

    def test_lines(self):
        for nest in SMALL_NESTS[::7]:
            for stage in (0, plaindesk.held(nest) - 1):
                for grown in range(len(nest[0]) + (1 if nest[1] else 0)):
                    self.gives(True, is_works, (("a", ("line", nest, stage, grown)),))
            most = len(nest[0]) if nest[1] else len(nest[0]) - 1
            for stage, grown in ((plaindesk.held(nest), 0), (-1, 0), (True, 0), (None, 0), (0, most + 1), (0, -1),
                                 (0, False), (0, None)):
                self.gives(False, is_works, (("a", ("line", nest, stage, grown)),))
        for work in (LINE[:3], (*LINE, 0), without(LINE, 0, "Line"), without(LINE, 0, "net"),
                     without(LINE, 1, ((), ())),
                     without(LINE, 1, (2, 2)), without(LINE, 1, None), without(LINE, 0, None)):
            self.gives(False, is_works, (("a", work),))
        self.gives(True, is_works, (("a", ("line", ((2,) * 199, ()), 2 ** 199 - 1, 198)),
                                    ("b", ("line", (HUGE, ()), 10 ** 60 - 1, 0))))
        self.gives(False, is_works, (("a", ("line", ((2,) * 199, ()), 2 ** 199 - 1, 199)),))

    def test_nets(self):
        for held in HELD[::2]:
            states = plainnets.work(*held)
            for row in plainnets.all_rows(held[1])[:64]:
                for stage in range(held[0][0]):
                    self.gives((stage, row) in states, is_works, (("a", ("net", *held, row, stage, 0)),))
        for place, entries in ((0, ("line", "nets", None)), (1, (ROW, (3, ((0, 1),)), None, ())),
                               (2, ((2, 2), (), None, [2, 2, 2])),
                               (3, ((), TIED[0], None, (("ties", (0, 1, 1)),))),
                               (4, ((1, 1, 1), (1, 0), None, [1, 0, 0], (1, 0, False))),
                               (5, (0, 2, 3, -1, True, None)), (6, (-1, None, True, "0"))):
            for entry in entries:
                self.gives(False, is_works, (("a", without(NET, place, entry)),))
        for hung in (0, 1, 10 ** 69):
            self.gives(True, is_works, (("a", without(NET, 6, hung)),))
        self.gives(False, is_works, (("a", NET[:6]),))
        self.gives(False, is_works, (("a", (*NET, 0)),))


class Reasons(Promises):

    def test_drawn_works_and_events(self):
        found = {}
        for seed, (_, desk) in enumerate(LOGS):
            rng = random.Random(850 + seed)
            for _ in range(25):
                event = plaindesk.random_event(rng, desk)
                reason = desk.reason(event)
                found[reason] = found.get(reason, 0) + 1
                self.gives(reason, reason_of, desk.works(), event)
            for event in EVENTS:
                self.gives(desk.reason(event), reason_of, desk.works(), event)
        self.assertEqual(set(found), {None, "name", "line", "net", "room", "stage", "tie", "size"})
        self.assertGreater(min(found.values()), 3)

    def test_shape(self):
        for thing in (*ODD, ("go", "ab", 0), ("day", "ab"), ["day"]):
            self.gives("shape", reason_of, WORKS, thing)
            self.gives("shape", reason_of, (), thing)

    def test_names(self):
        self.gives("name", reason_of, WORKS, ("line", "cd", (2,), (2,)))
        self.gives("name", reason_of, WORKS, ("net", "ab", RING, (2, 2, 2), TIED))
        self.gives(None, reason_of, WORKS, ("net", "abc", RING, (2, 2, 2), TIED))
        self.gives(None, reason_of, WORKS, ("line", "a", (), (2,)))
        for event in (("go", "x", 1), ("pass", "x", 0), ("grow", "x", 2), ("hang", "x", 0, ROW, (3,), BOTH_SHARED),
                      ("drop", "x")):
            self.gives("name", reason_of, WORKS, event)
        self.gives(None, reason_of, (), ("day",))
        self.gives(None, reason_of, WORKS, ("day",))
        for name in ("ab", "cd"):
            self.gives(None, reason_of, WORKS, ("drop", name))

    def test_which_work(self):
        for many in (1, 10 ** 60):
            self.gives("line", reason_of, WORKS, ("go", "cd", many))
            self.gives("line", reason_of, WORKS, ("grow", "cd", many + 1))
            self.gives("net", reason_of, WORKS, ("pass", "ab", many))
            self.gives("net", reason_of, WORKS, ("hang", "ab", many, ROW, (3,), BOTH_SHARED))

    def test_room(self):
        for stage in range(4):
            works = (("ab", ("line", NEST, stage, 0)),)
            for many in range(1, 6):
                self.gives(None if stage + many < 4 else "room", reason_of, works, ("go", "ab", many))
        works = (("ab", ("line", (HUGE, ()), 1, 0)),)
        self.gives(None, reason_of, works, ("go", "ab", 10 ** 60 - 2))
        self.gives("room", reason_of, works, ("go", "ab", 10 ** 60 - 1))

    def test_stages_and_ties(self):
        for stage in range(5):
            self.gives(None if stage < 3 else "stage", reason_of, WORKS,
                       ("hang", "cd", stage, PAIR, (2,), (("dial", 0),)))
            self.gives(None if stage in (0, 2) else "tie", reason_of, WORKS, ("pass", "cd", stage))
        self.gives("tie", reason_of, (("a", ("net", ROW, (3,), BOTH_SHARED, (0,), 0, 0)),), ("pass", "a", 2))
        self.gives("tie", reason_of, (("a", ("net", (1, ()), (3,), (), (0,), 0, 0)),), ("pass", "a", 0))

    def test_size_of_nests(self):
        for nest, size, reason in (
                ((WIDE[1:], ()), 2, None), ((WIDE[1:], ()), 3, "size"), ((WIDE, ()), 2, "size"),
                (((2,) * 197, (2,)), 2, None), (((2,) * 196, (3,)), 2, None), (((2,) * 197, (3,)), 2, "size"),
                (((10 ** 30,), (10 ** 29,)), 10, None), (((10 ** 30,), (10 ** 29,)), 11, "size"),
                ((HUGE, ()), 2, "size"),
                (((5 * 10 ** 59,), ()), 2, None), (((), (10 ** 59,)), 10, None),
                (((2,), ()), 5 * 10 ** 59, None), (((2,), ()), 5 * 10 ** 59 + 1, "size"),
                (((3,), (3,)), 10 ** 60 // 9, None),
                (((3,), (3,)), 10 ** 60 // 9 + 1, "size"), (((2,) * 200, ()), 2, "size"),
                (((2,) * 150, (2,) * 50), 2, "size")):
            self.gives(reason, reason_of, (("a", ("line", nest, 0, 0)),), ("grow", "a", size))
        # So no nest of two hundred dials is let.
        self.assertLess(2 ** 199, 10 ** 60)
        self.assertGreater(2 ** 200, 10 ** 60)

    def test_size_of_nets(self):
        shared = {size: (("dial", 0),) * (size - 1) for size in range(1, 13)}
        for size, more, reason in ((6, 7, None), (6, 8, "size"), (12, 1, None), (12, 2, "size"), (1, 12, None),
                                   (11, 2, None), (11, 3, "size")):
            works = (("a", ("net", line_net(size), (12,), shared[size], (0,), 0, 0)),)
            self.gives(reason, reason_of, works, ("hang", "a", 0, line_net(more), (12,), shared[more]))
        full = {many: (7, tuple((one, other) for other in range(7) for one in range(other))[:many])
                for many in range(15, 22)}
        full = {many: (7, tuple(sorted(net[1]))) for many, net in full.items()}
        for one, other, reason in ((21, 3, None), (21, 4, "size"), (20, 4, None), (18, 6, None)):
            net, ring = full[one], ring_net(other)
            works = (("a", ("net", net, (12,), (("dial", 0),) * len(plainnets.plain.blocks_of(net)), (0,), 0, 0)),)
            if net[0] + ring[0] <= 13:
                self.gives(reason, reason_of, works, ("hang", "a", 6, ring, (12,), (("dial", 0),)))
        for dials, more, reason in ((23, 1, None), (23, 2, "size"), (12, 12, None), (12, 13, "size"), (1, 23, None),
                                    (1, 24, "size")):
            works = (("a", ("net", PAIR, (2,) * dials, (("dial", 0),), (0,) * dials, 0, 0)),)
            self.gives(reason, reason_of, works, ("hang", "a", 1, PAIR, (2,) * more, (("dial", more - 1),)))

    def test_which_comes_first(self):
        self.gives("stage", reason_of, (("a", ("net", line_net(12), (12,), (("dial", 0),) * 11, (0,), 0, 0)),),
                   ("hang", "a", 12, ROW, (3,), BOTH_SHARED))
        self.gives("size", reason_of, (("a", ("net", line_net(12), (12,), (("dial", 0),) * 11, (0,), 0, 0)),),
                   ("hang", "a", 11, ROW, (3,), BOTH_SHARED))
        self.gives("net", reason_of, WORKS, ("hang", "ab", 99, ROW, (3,), BOTH_SHARED))
        self.gives("line", reason_of, WORKS, ("go", "cd", 10 ** 60))
        self.gives("name", reason_of, WORKS, ("go", "x", 10 ** 60))

    def test_refused(self):
        for wrong in (None, True, 0, "", [], list(WORKS), WORKS[::-1], (("ab", None),), WORKS[0]):
            for function in (reason_of, stepped):
                self.refuses("works", function, wrong, ("day",))
                self.refuses("works", function, wrong, None)


class Stepped(Promises):

    def test_drawn_logs(self):
        words = {}
        for log, _ in LOGS:
            desk = plaindesk.Desk()
            for event in log:
                words[event[0]] = words.get(event[0], 0) + 1
                before = desk.works()
                desk.do(event)
                self.gives(desk.works(), stepped, before, event)
                self.gives(True, is_works, desk.works())
        self.assertEqual(len(words), 8)
        self.assertGreater(min(words.values()), 10)

    def test_barred(self):
        found = set()
        for seed, (_, desk) in enumerate(LOGS):
            rng = random.Random(860 + seed)
            for _ in range(12):
                event = plaindesk.random_event(rng, desk)
                reason = desk.reason(event)
                if reason is not None:
                    found.add(reason)
                    self.fails(InvalidEvent, (event, reason), stepped, desk.works(), event)
        self.assertEqual(found, {"name", "line", "net", "room", "stage", "tie", "size"})
        for thing in ODD:
            self.fails(InvalidEvent, (thing, "shape"), stepped, WORKS, thing)
        thing = ["day"]
        with self.assertRaises(InvalidEvent) as caught:
            stepped(WORKS, thing)
        self.assertIs(caught.exception.event, thing)

    def test_each_event(self):
        cd = ("cd", NET)
        for event, after in (
                (("line", "b", (), (3,)), (WORKS[0], ("b", ("line", ((), (3,)), 0, 0)), cd)),
                (("net", "a", ROW, (3, 4), BOTH_SHARED), (("a", ("net", ROW, (3, 4), BOTH_SHARED, (0, 0), 0, 0)),
                                                          *WORKS)),
                (("go", "ab", 1), (("ab", ("line", NEST, 3, 1)), cd)),
                (("grow", "ab", 5), (("ab", ("line", ((5, 2), (2,)), 2, 2)), cd)),
                (("pass", "cd", 2), (WORKS[0], ("cd", ("net", RING, (2, 2, 2), TIED, (1, 0, 1), 2, 0)))),
                (("drop", "ab"), (cd,)), (("drop", "cd"), WORKS[:1]), (("day",), WORKS)):
            self.gives(after, stepped, WORKS, event)
        (_, _), (_, hung) = stepped(WORKS, ("hang", "cd", 1, PAIR, (4, 2), (("dial", 1),)))
        self.assertEqual(hung, ("net", (4, ((0, 1), (0, 2), (1, 2), (1, 3))), (2, 2, 2, 4, 2), (*TIED, ("dial", 4)),
                                (1, 0, 0, 0, 0), 1, 1))
        self.gives((("ab", ("line", (HUGE, ()), 10 ** 60 - 1, 0)),), stepped, (("ab", ("line", (HUGE, ()), 0, 0)),),
                   ("go", "ab", 10 ** 60 - 1))
        self.gives((("ab", ("line", (WIDE, ()), 7, 3)),), stepped, (("ab", ("line", (WIDE[1:], ()), 7, 2)),),
                   ("grow", "ab", 2))


if __name__ == "__main__":
    unittest.main()
