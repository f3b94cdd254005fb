"""Runs: a work and its readers, slice by slice."""

from stoodthen.errors import InvalidEvent, need
from stoodthen.kinds import is_below


class Run:
    """A run of the work, without slices; the readers are the numbers below many, all numbers for None."""

    def __init__(self, work, many):
        self._work = work
        self._many = many
        self._log = []
        self._stood = []
        self._halted = {}
        self._looks = {}
        self._watches = []

    def barred(self, piece):
        """Why piece, any value, is barred behind the slices done, or None."""
        if not self._work.is_piece(piece):
            return "shape"
        if piece[0] in ("look", "halt"):
            return self.reader_barred(piece[1])
        if piece[0] == "end":
            return None if self._work.turning() else "still"
        return "turning" if self._work.turning() else self._work.bars(piece)

    def reader_barred(self, who):
        """Why this reader may not look or halt, or None."""
        if self._many is not None and who >= self._many:
            return "who"
        return "halted" if who in self._halted else None

    def put(self, piece):
        """Do piece, or InvalidEvent."""
        reason = self.barred(piece)
        if reason is not None:
            raise InvalidEvent(piece, reason)
        if piece[0] == "look":
            self.look(piece[1], piece[2])
        elif piece[0] == "halt":
            self._halted[piece[1]] = True
        else:
            self._work.move(piece)
        self._log.append(piece)
        self._stood.append(self._work.stands())

    def look(self, who, shade):
        """Let the reader make its next look."""
        place = len(self._log)
        seen = self._looks.get(who, ())
        order = self._work.order(who)
        seen = (*seen, (place, self._work.shows(order[len(seen)], shade)))
        if len(seen) == len(order):
            self._watches.append((who, seen[0][0], place, tuple([value for _, value in seen])))
            seen = ()
        self._looks[who] = seen

    def told_by_look(self, who, shade):
        """Do a look, or InvalidEvent; the stage told if it ends a watch, otherwise None."""
        many = len(self._watches)
        self.put(("look", who, shade))
        if len(self._watches) == many:
            return None
        return self.row(self._watches[-1])[4]

    def row(self, watch):
        """The row (who, begin, end, view, stage) of a watch that has ended."""
        who, begin, end, seen = watch
        return (who, begin, end, *self._work.told(who, seen))

    def rows(self):
        """A row for each watch that has ended."""
        return tuple([self.row(watch) for watch in self._watches])

    def shows(self, dial, shade):
        """What a look at the dial with this shade would see."""
        return self._work.shows(dial, shade)

    def log(self):
        """The tuple of the slices done."""
        return tuple(self._log)

    def stands(self):
        """The lot of the stages that stand."""
        return self._work.stands()

    def stood(self):
        """A tuple with, for each slice done, the lot of the stages that stand behind it."""
        return tuple(self._stood)


def need_done(run, slices):
    """Let the run do the slices; refuse them if they are no tuple of slices that are let."""
    need(isinstance(slices, tuple), "slices")
    for piece in slices:
        need(run.barred(piece) is None, "slices")
        run.put(piece)


def stood_from(run, begin, end):
    """The lot of all stages that stand behind the slices of the run from begin to end, both places."""
    stood = run.stood()
    need(is_below(begin, len(stood)), "begin")
    need(is_below(end, len(stood)) and end >= begin, "end")
    return tuple(sorted({stage for stages in stood[begin:end + 1] for stage in stages}))
