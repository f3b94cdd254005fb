"""[91], [92]: events, logs and works as lines of text."""

import unittest

from stoodthen.desktexts import event_line, log_text, read_event, read_log, works_line
from stoodthen.errors import InvalidRow, InvalidText
from tests.heldsamples import BOTH_SHARED, HELD, TIED
from tests.samples import HUGE, NEST, ODD, RING, ROW, WIDE, Promises
from tests.test_deskevents import EVENTS
from tests.test_reasons import LOGS, WORKS

LINES = {
    "line ab 0 2 2": ("line", "ab", (), (2, 2)), "line a 1 3": ("line", "a", (3,), ()),
    "line a 2 3 4 5": ("line", "a", (3, 4), (5,)),
    "line a 1 1" + "0" * 60: ("line", "a", HUGE, ()),
    "net cd 3 3 0 1 0 2 1 2 3 2 2 2 ties 0 1 2": ("net", "cd", RING, (2, 2, 2), TIED),
    "net cd 1 0 2 2 5": ("net", "cd", (1, ()), (2, 5), ()),
    "net b 3 2 0 1 1 2 1 3 dial 0 dial 0": ("net", "b", ROW, (3,), BOTH_SHARED),
    "net b 3 2 0 1 1 2 2 3 2 ties 1 dial 0": ("net", "b", ROW, (3, 2), (("ties", (1,)), ("dial", 0))),
    "go ab 12": ("go", "ab", 12), "pass cd 0": ("pass", "cd", 0), "grow ab 2": ("grow", "ab", 2),
    "drop day": ("drop", "day"), "day": ("day",),
    "hang cd 1 3 3 0 1 0 2 1 2 1 3 dial 0": ("hang", "cd", 1, RING, (3,), (("dial", 0),)),
    "hang cd 0 1 0 1 2": ("hang", "cd", 0, (1, ()), (2,), ()),
}
# Fields that can't stand, and how many fields there are where the line ends too soon.
WRONG = {
    "": 0, " ": 0, "x": 0, "Day": 0, "0": 0, "ab": 0, "day ": 1, "day 0": 1, "day day": 1, "drop": 1, "drop ": 1,
    "drop 0": 1, "drop Ab": 1,
    "drop abcdefghijklm": 1, "drop ab ": 2, "drop ab 0": 2, "go": 1, "go ab": 2, "go ab x": 2, "go ab -1": 2,
    "go ab 01": 2, "go ab 1 ": 3,
    "go ab 1 2": 3, "go 1": 1, "pass ab": 2, "pass ab 1 1": 3, "grow ab 2;": 2, "line": 1, "line ab": 2,
    "line ab x": 2, "line ab 1": 3,
    "line ab 2 2": 4, "line ab 2 2 x": 4, "line ab 0 2 x": 4, "line ab 0 2 ": 4, "line ab 0 02": 3, "line ab 1 00": 3,
    "line ab 0 2  2": 4,
    "line ab 1" + "0" * 60 + " 2 2": 5, "net": 1, "net ab": 2, "net ab x": 2, "net ab 3": 3, "net ab 3 x": 3,
    "net ab 3 2": 4, "net ab 3 2 0": 5,
    "net ab 3 2 0 1 1": 7, "net ab 3 2 0 1 x": 6, "net ab 3 2 0 1 1 2": 8, "net ab 3 2 0 1 1 2 x": 8,
    "net ab 3 2 0 1 1 2 1": 9,
    "net ab 3 2 0 1 1 2 1 dial": 9, "net ab 3 2 0 1 1 2 1 3 x": 10, "net ab 3 2 0 1 1 2 1 3 0": 10,
    "net ab 3 2 0 1 1 2 1 3 dial": 11,
    "net ab 3 2 0 1 1 2 1 3 dial x": 11, "net ab 3 2 0 1 1 2 1 3 dial 0 0": 12, "net ab 3 2 0 1 1 2 1 3 ties": 11,
    "net ab 3 2 0 1 1 2 1 3 ties x": 11, "net ab 3 2 0 1 1 2 1 3 ties dial": 11, "net ab 3 2 0 1 1 2 1 3 ties 0 01": 12,
    "net ab 3 2 0 1 1 2 1 3 ties 0 1 x": 13, "net ab 3 2 0 1 1 2 1 3 dial 0 ": 12, "net ab 3 1" + "0" * 60 + " 0 1": 6,
    "net ab 1 0 2 2": 6,
    "hang": 1, "hang ab": 2, "hang ab 0": 3, "hang ab x": 2, "hang ab 0 1": 4, "hang ab 0 1 0": 5,
    "hang ab 0 1 0 1": 6, "hang ab 0 1 0 1 2 x": 7,
    "hang ab 0 1 0 1 2 dial": 8, " day": 0, "go  ab 1": 1, "day;": 0, "(day)": 0,
}
# What reads so and is no event.
NONE = ("go ab 0", "grow ab 0", "grow ab 1", "line ab 0", "line ab 0 1", "line ab 1 1", "line ab 1 0 2",
        "line ab 0 2 0", "net ab 0 0 1 2", "net ab 2 0 1 2",
        "net ab 1 0 0", "net ab 1 0 1 1", "net ab 1 0 1 2 dial 0", "net ab 3 2 0 1 1 2 1 3",
        "net ab 3 2 0 1 1 2 1 3 dial 0",
        "net ab 3 2 0 1 1 2 1 2 dial 0 dial 0", "net ab 3 2 1 2 0 1 1 3 dial 0 dial 0",
        "net ab 3 2 0 1 1 0 1 3 dial 0 dial 0",
        "net ab 3 2 0 1 1 2 1 3 dial 0 dial 1", "net ab 3 2 0 1 1 2 1 3 ties 0 ties 0",
        "net ab 3 2 0 1 1 2 2 3 3 ties 0 1 ties 1",
        "hang ab 0 0 0 1 2", "hang ab 0 1 0 0", "hang ab 0 2 1 0 1 1 2", "hang ab 0 2 1 0 1 1 2 dial 1",
        "hang ab 0 2 1 0 1 1 2 dial 0 dial 0")


class Events(Promises):

    def test_lines(self):
        for line, event in LINES.items():
            self.gives(line, event_line, event)
            self.gives(event, read_event, line)

    def test_read_as_written(self):
        for event in EVENTS:
            self.gives(event, read_event, event_line(event))
        for held in HELD:
            for event in (("net", "a", *held), ("hang", "a", 7, *held)):
                self.gives(event, read_event, event_line(event))
        for log, _ in LOGS[::2]:
            for event in log:
                self.gives(event, read_event, event_line(event))
        for nest in (NEST, (WIDE, ()), ((), WIDE), ((2,) * 50, (3,) * 50)):
            self.gives(("line", "a", *nest), read_event, event_line(("line", "a", *nest)))

    def test_fields_that_cannot_stand(self):
        for line, field in WRONG.items():
            self.fails(InvalidText, (0, field), read_event, line)

    def test_lines_that_end_too_soon(self):
        for line in LINES:
            fields = line.split(" ")
            for many in range(1, len(fields)):
                part = " ".join(fields[:many])
                if part in LINES:
                    continue
                try:
                    read_event(part)
                except InvalidText as error:
                    self.assertEqual((error.line, error.field), (0, many), part)
                except InvalidRow as error:
                    self.assertEqual(error.row, 0)
                    self.assertIn(fields[0], ("line", "net", "hang"))
                else:
                    self.assertIn(fields[0], ("line", "net", "hang"))

    def test_a_field_changed(self):
        for line in LINES:
            fields = line.split(" ")
            for place, field in enumerate(fields):
                for wrong in ("", "x1", "-1", "00", "01", "Ab", "+1", "1.0", ";", field + ";", field + "0" * 13
                              if not field.isdigit() else "x-"):
                    text = " ".join([*fields[:place], wrong, *fields[place + 1:]])
                    self.fails(InvalidText, (0, place), read_event, text)

    def test_what_reads_so_and_is_no_event(self):
        for line in NONE:
            self.fails(InvalidRow, (0,), read_event, line)

    def test_refused(self):
        for wrong in (*ODD, ("go", "ab", 0), list(EVENTS[0]), ("day", "ab"), EVENTS):
            self.refuses("event", event_line, wrong)
        for wrong in (None, True, 0, (), [], ("day",), ["day"], 10 ** 69):
            self.refuses("text", read_event, wrong)
            self.refuses("text", read_log, wrong)


class Logs(Promises):

    def test_read_as_written(self):
        self.gives("", log_text, ())
        self.gives((), read_log, "")
        self.gives("day\ngo a 1\ndrop b", log_text, (("day",), ("go", "a", 1), ("drop", "b")))
        for log in (EVENTS, (("day",),) * 60, *[log for log, _ in LOGS[:10]]):
            text = log_text(log)
            self.gives(log, read_log, text)
            self.assertEqual(text.split("\n"), [event_line(event) for event in log])

    def test_the_first_line_that_cannot_be_read(self):
        for line, field in WRONG.items():
            if line:
                self.fails(InvalidText, (0, field), read_log, line)
            self.fails(InvalidText, (2, field), read_log, "day\ngo a 1\n" + line + "\nx\ngo a 0")
        for line in NONE:
            self.fails(InvalidRow, (0,), read_log, line)
            self.fails(InvalidRow, (3,), read_log, "day\nday\ndrop a\n" + line + "\nx")
        self.fails(InvalidRow, (1,), read_log, "day\ngo a 0\nx")
        self.fails(InvalidText, (1, 0), read_log, "day\nx\ngo a 0")
        self.fails(InvalidText, (1, 0), read_log, "day\n")
        self.fails(InvalidText, (0, 0), read_log, "\n")
        self.fails(InvalidText, (1, 0), read_log, "day\n\nday")

    def test_refused(self):
        for wrong in [*[thing for thing in ODD if thing != () or not isinstance(thing, tuple)], list(EVENTS), ("day",)]:
            self.refuses("log", log_text, wrong)


class Works(Promises):

    def test_lines(self):
        self.gives("", works_line, ())
        self.gives("ab line 2 1 1; cd net 1 1 0 0", works_line, WORKS)
        self.gives("cd net 1 1 0 0", works_line, WORKS[1:])
        self.gives("a line " + "9" * 60 + " " + "9" * 60, works_line, (("a", ("line", (HUGE, ()), 10 ** 60 - 1, 0)),))
        for _, desk in LOGS:
            told = [" ".join(map(str, (name, work[0], desk.stage(name), *desk.row(name)))) for name,
                    work in desk.works()]
            self.gives("; ".join(told), works_line, desk.works())

    def test_refused(self):
        for wrong in (None, True, 0, "", [], list(WORKS), WORKS[::-1], (("ab", None),)):
            self.refuses("works", works_line, wrong)


if __name__ == "__main__":
    unittest.main()
