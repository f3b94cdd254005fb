"""Logs that are done again, cut, and told day by day."""

from stoodthen.desk import Desk
from stoodthen.deskevents import is_log
from stoodthen.deskworks import stage_of
from stoodthen.errors import need
from stoodthen.kinds import is_below
from stoodthen.stepping import works_after


def replayed(log):
    """A new Desk that has done the events of the log, or the first InvalidEvent."""
    need(is_log(log), "log")
    desk = Desk()
    desk.do_all(log)
    return desk


def cut_log(log, many):
    """The pair of the first many events and the others."""
    need(is_log(log), "log")
    need(is_below(many, len(log) + 1), "many")
    return (log[:many], log[many:])


def day_report(log):
    """For each day a triple (name, gone, stage) for each work there is then, or the first InvalidEvent."""
    need(is_log(log), "log")
    works = ()
    gone = {}
    report = []
    for event in log:
        works = works_after(works, event)
        word = event[0]
        if word == "day":
            report.append(tuple([(name, gone.get(name, 0), stage_of(work)) for name, work in works]))
            gone = {}
        elif word in ("go", "pass"):
            gone[event[1]] = gone.get(event[1], 0) + (event[2] if word == "go" else 1)
        elif word == "drop":
            gone[event[1]] = 0
    return tuple(report)
