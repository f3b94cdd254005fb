"""The desk: it keeps works, and a log of the events done."""

from stoodthen.deskasks import DeskAsks
from stoodthen.errors import InvalidEvent, NothingToUndo, need
from stoodthen.kinds import is_stages
from stoodthen.reasons import barred_by
from stoodthen.stepping import works_after


class Desk(DeskAsks):
    """A desk without works."""

    def __init__(self):
        super().__init__(())
        self._log = []
        # The works ahead of each event of the log.
        self._past = []

    def __eq__(self, other):
        return isinstance(other, Desk) and self._log == other._log

    def put(self, event):
        """Do the event, any value, or InvalidEvent."""
        works = works_after(self._works, event)
        self._past.append(self._works)
        self._log.append(event)
        self._works = works

    def open_line(self, name, outer, inner):
        """Put the opening of a line."""
        self.put(("line", name, outer, inner))

    def open_net(self, name, net, dials, holding):
        """Put the opening of a net."""
        self.put(("net", name, net, dials, holding))

    def go(self, name, many):
        """Put the going on of a line by many stages."""
        self.put(("go", name, many))

    def pass_to(self, name, stage):
        """Put the passing of a tie to the stage."""
        self.put(("pass", name, stage))

    def grow(self, name, size):
        """Put the growing of a line by the size."""
        self.put(("grow", name, size))

    def hang(self, name, stage, other, more, held):
        """Put the hanging of another net, held in more, on at the stage."""
        self.put(("hang", name, stage, other, more, held))

    def drop(self, name):
        """Put the dropping of a work."""
        self.put(("drop", name))

    def day(self):
        """Put the end of a day."""
        self.put(("day",))

    def barred(self, event):
        """Why the event, any value, is barred, or None."""
        return barred_by(self._works, event)

    def do_all(self, events, keep=False):
        """Put the events up to the first InvalidEvent; what was put is then undone, unless keep."""
        need(isinstance(events, tuple), "events")
        need(isinstance(keep, bool), "keep")
        many = len(self._log)
        try:
            for event in events:
                self.put(event)
        except InvalidEvent:
            if not keep:
                self.take_back(len(self._log) - many)
            raise

    def undo(self, steps=1):
        """Take the last steps events back, or NothingToUndo."""
        need(is_stages(steps), "steps")
        if steps > len(self._log):
            raise NothingToUndo(steps)
        self.take_back(steps)

    def take_back(self, steps):
        """Take so many of the last events back, none for 0."""
        for _ in range(steps):
            self._log.pop()
            self._works = self._past.pop()

    def tried(self, events):
        """The works as they would be after do_all, or its errors."""
        need(isinstance(events, tuple), "events")
        works = self._works
        for event in events:
            works = works_after(works, event)
        return works

    def log(self):
        """The tuple of the events done."""
        return tuple(self._log)
