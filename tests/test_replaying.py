"""[90], [92]: logs that are done again, cut, and told day by day."""

import random
import unittest

from stoodthen.desk import Desk
from stoodthen.errors import InvalidEvent
from stoodthen.replaying import cut_log, day_report, replayed
from tests import plaindesk
from tests.heldsamples import BOTH_SHARED, TIED
from tests.samples import HUGE, ODD, RING, ROW, Promises
from tests.test_deskevents import EVENTS
from tests.test_reasons import LOGS

DAYS = (("line", "ab", (), (2, 2, 2)), ("day",), ("net", "cd", RING, (2, 2, 2), TIED), ("go", "ab", 2),
        ("pass", "cd", 2), ("go", "ab", 1),
        ("pass", "cd", 1), ("pass", "cd", 0), ("day",), ("grow", "ab", 2), ("hang", "cd", 1, ROW, (3,), BOTH_SHARED),
        ("day",), ("go", "ab", 1),
        ("drop", "ab"), ("line", "ab", (3,), ()), ("go", "ab", 2), ("day",), ("drop", "cd"), ("day",), ("drop", "ab"),
        ("go", "ab", 1))


def days(log):
    """What each day tells, event by event."""
    desk, gone, report = plaindesk.Desk(), {}, []
    for event in log:
        desk.do(event)
        word = event[0]
        if word == "day":
            report.append(tuple((name, gone[name], desk.stage(name)) for name in sorted(desk.named)))
            gone = dict.fromkeys(gone, 0)
        elif word in ("line", "net"):
            gone[event[1]] = 0
        elif word == "go":
            gone[event[1]] += event[2]
        elif word == "pass":
            gone[event[1]] += 1
    return tuple(report)


class Replaying(Promises):

    def test_replayed(self):
        for log, last in LOGS:
            desk = replayed(log)
            self.assertIsInstance(desk, Desk)
            self.assertEqual((desk.log(), desk.works()), (log, last.works()))
            self.assertTrue(replayed(desk.log()) == desk)
        self.assertEqual((replayed(()).log(), replayed(()).works()), ((), ()))
        desk = replayed(DAYS[:3])
        desk.day()
        self.assertEqual(replayed(DAYS[:3]).log(), DAYS[:3])

    def test_cut_anywhere(self):
        for log, _ in LOGS[::8]:
            for many in range(len(log) + 1):
                one, other = cut_log(log, many)
                self.gives((log[:many], log[many:]), cut_log, log, many)
                desk = replayed(one)
                desk.do_all(other)
                self.assertTrue(desk == replayed(log))
        self.gives(((), ()), cut_log, (), 0)

    def test_the_first_event_that_is_barred(self):
        for log, bad, reason in ((DAYS, ("go", "ab", 1), "name"),
                                 ((("drop", "a"), ("drop", "b")), ("drop", "a"), "name"),
                                 ((*DAYS[:4], ("go", "ab", 9), ("drop", "x")), ("go", "ab", 9), "room"),
                                 ((*DAYS[:3], ("pass", "ab", 1)), ("pass", "ab", 1), "net"),
                                 ((DAYS[0], DAYS[0]), DAYS[0], "name")):
            for function in (replayed, day_report):
                self.fails(InvalidEvent, (bad, reason), function, log)

    def test_days(self):
        self.gives(((("ab", 0, 0),), (("ab", 3, 3), ("cd", 3, 0)), (("ab", 0, 3), ("cd", 0, 0)),
                    (("ab", 2, 2), ("cd", 0, 0)), (("ab", 0, 2),)),
                   day_report, DAYS[:-1])
        self.gives((), day_report, ())
        self.gives((), day_report, DAYS[2:7:4][:1])
        self.gives(((), ()), day_report, (("day",), ("day",)))

    def test_drawn_days(self):
        told = 0
        for log, _ in LOGS:
            report = days(log)
            told += sum(gone > 0 for day in report for _, gone, _ in day)
            self.gives(report, day_report, log)
        self.assertGreater(told, 20)
        for seed in range(12):
            log, _ = plaindesk.random_log(random.Random(900 + seed), 60)
            self.gives(days(log), day_report, log)

    def test_opened_anew_within_a_day(self):
        log = (("line", "a", (), (4,)), ("go", "a", 2), ("drop", "a"), ("line", "a", (), (4,)), ("day",),
               ("go", "a", 1), ("drop", "a"),
               ("net", "a", ROW, (3,), BOTH_SHARED), ("pass", "a", 1), ("day",))
        self.gives(((("a", 0, 0),), (("a", 1, 1),)), day_report, log)

    def test_wide(self):
        log = (("line", "a", HUGE, ()), ("go", "a", 10 ** 60 - 2), ("go", "a", 1), ("day",))
        self.gives(((("a", 10 ** 60 - 1, 10 ** 60 - 1),),), day_report, log)

    def test_refused(self):
        for wrong in [*[thing for thing in ODD if thing != () or not isinstance(thing, tuple)], list(EVENTS), ("day",),
                      (("go", "ab", 0),)]:
            self.refuses("log", replayed, wrong)
            self.refuses("log", day_report, wrong)
            self.refuses("log", cut_log, wrong, 0)
            self.refuses("log", cut_log, wrong, None)
        for wrong in (None, True, -1, len(EVENTS) + 1, 10 ** 69, "0", ()):
            self.refuses("many", cut_log, EVENTS, wrong)
        self.refuses("many", cut_log, (), 1)


if __name__ == "__main__":
    unittest.main()
