"""All errors of the package, and the one way to refuse a parameter."""


class StoodError(ValueError):
    """The base class of all errors of the package."""


class PaperError(StoodError):
    """The family of what checkers refuse."""


class CodeError(StoodError):
    """The family of what functions of dials, lives and machines refuse."""


class LiveError(StoodError):
    """The family of what runs and desks refuse."""


class TextError(StoodError):
    """The family of what readers of texts refuse."""


class InvalidPaper(PaperError):
    """A checker refuses its thing: for which word of its list, and where."""

    def __init__(self, word, at):
        self.word = word
        self.at = at


class NotUsable(CodeError):
    """A parameter is not as stated: which one, and where."""

    def __init__(self, word, at):
        self.word = word
        self.at = at


class TooMany(CodeError):
    """More stages are asked for than there are."""

    def __init__(self, most):
        self.most = most


class Torn(CodeError):
    """A tour is not safe: a view for which no stage is right."""

    def __init__(self, view):
        self.view = view


class Unseen(CodeError):
    """What was seen can't be seen: the place of the look or the dial."""

    def __init__(self, place):
        self.place = place


class InvalidEvent(LiveError):
    """An event or a slice is barred, and why."""

    def __init__(self, event, reason):
        self.event = event
        self.reason = reason


class NothingToUndo(LiveError):
    """More steps are to be taken back than were done."""

    def __init__(self, steps):
        self.steps = steps


class InvalidText(TextError):
    """A field of a text can't stand where it does."""

    def __init__(self, line, field):
        self.line = line
        self.field = field


class InvalidRow(TextError):
    """What a text says is of the right form, but no such value."""

    def __init__(self, row):
        self.row = row


def need(holds, name):
    """Refuse the parameter called name, unless what is asked of it holds."""
    if not holds:
        raise NotUsable(name, -1)
