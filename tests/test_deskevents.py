"""[84]: names, events and logs."""

import itertools
import random
import unittest

from stoodthen.deskevents import is_event, is_log, is_name
from stoodthen.nets import line_net
from tests import plaindesk
from tests.heldsamples import BOTH_SHARED, HELD, TIED
from tests.samples import HUGE, NEST, ODD, RING, ROW, WIDE, Promises

EVENTS = (("line", "ab", (), (2, 2)), ("line", "a", (3,), ()), ("line", "abcdefghijkl", WIDE, HUGE),
          ("net", "cd", RING, (2, 2, 2), TIED),
          ("net", "cd", (1, ()), (2,), ()), ("go", "ab", 1), ("go", "ab", 10 ** 60), ("pass", "cd", 0),
          ("pass", "cd", 10 ** 69),
          ("grow", "ab", 2), ("grow", "ab", 10 ** 60), ("hang", "cd", 0, ROW, (3,), BOTH_SHARED),
          ("hang", "zz", 11, (1, ()), (2,), ()),
          ("drop", "ab"), ("day",))
# Things that may stand in the place of an entry.
ENTRIES = (None, True, False, -1, 0, 1, 2, 10 ** 60, "", "ab", "go", "x" * 13, (), (2,), (2, 2), (1,), ((),), RING,
           TIED, [2], [])


class Events(Promises):

    def test_names(self):
        for name in ("a", "z", "ab", "abcdefghijkl", "zzzzzzzzzzzz", "day"):
            self.gives(True, is_name, name)
        for thing in (*ODD, "abcdefghijklm", "Ab", "aB", "a b", "a1", "a-", "1", " a", "a ", "a\n", "_", ("a",), ["a"],
                      "a~", "{", "`"):
            if thing not in ("look",):
                self.gives(False, is_name, thing)

    def test_events(self):
        for event in EVENTS:
            self.gives(True, is_event, event)
        for held in HELD:
            self.gives(True, is_event, ("net", "a", *held))
            self.gives(True, is_event, ("hang", "a", 7, *held))

    def test_any_entry_changed(self):
        found = {True: 0, False: 0}
        for event in EVENTS:
            for place, entry in itertools.product(range(len(event)), (*ENTRIES, *[event[0] for event in EVENTS])):
                thing = (*event[:place], entry, *event[place + 1:])
                found[plaindesk.is_event(thing)] += 1
                self.gives(plaindesk.is_event(thing), is_event, thing)
            for thing in (event[:-1], (*event, 0), (*event, event[-1]), list(event), (event,), event[1:]):
                found[plaindesk.is_event(thing)] += 1
                self.gives(plaindesk.is_event(thing), is_event, thing)
        self.assertGreater(min(found.values()), 50)

    def test_other_things(self):
        for thing in (*ODD, ("day", "ab"), ("drop",), ("drop", "ab", 0), ("go", "ab"), ("go", "ab", 0),
                      ("grow", "ab", 1), ("pass", "ab", -1),
                      ("line", "ab", ()), ("line", "ab", (), ()), ("line", "ab", ((2,), (2,))), ("line", "ab", NEST),
                      ("line", "ab", [2], ()),
                      ("net", "ab", RING, (2, 2, 2)), ("net", "ab", RING, (2, 2), TIED),
                      ("net", "ab", (2, ()), (2,), ()),
                      ("net", "ab", RING, (2, 2, 2), TIED, 0), ("hang", "ab", RING, (2, 2, 2), TIED),
                      ("hang", "ab", -1, RING, (2, 2, 2), TIED),
                      ("hang", "ab", True, RING, (2, 2, 2), TIED), ("go", "ab", True), ("Go", "ab", 1),
                      ("goes", "ab", 1), ("day", ),
                      ("tie", "ab", 1), (["day"],), ("days",), (None,), ("line",)):
            self.gives(plaindesk.is_event(thing), is_event, thing)

    def test_more_stages_than_a_desk_keeps(self):
        """Whether a thing is an event does not ask how great it is."""
        self.gives(True, is_event, ("net", "ab", line_net(12), (2,) * 11, tuple(("dial", dial) for dial in range(11))))
        self.gives(True, is_event, ("line", "ab", (2,) * 250, ()))

    def test_logs(self):
        self.gives(True, is_log, ())
        self.gives(True, is_log, EVENTS)
        self.gives(True, is_log, (("day",),) * 60)
        for thing in ODD:
            self.gives(isinstance(thing, tuple) and thing == (), is_log, thing)
            self.gives(False, is_log, (*EVENTS, thing))
        for thing in (list(EVENTS), ("day",), EVENTS[0], (EVENTS,), (("go", "ab", 0),), {}):
            self.gives(False, is_log, thing)
        for seed in range(10):
            log, _ = plaindesk.random_log(random.Random(seed), 20)
            self.gives(True, is_log, log)


if __name__ == "__main__":
    unittest.main()
