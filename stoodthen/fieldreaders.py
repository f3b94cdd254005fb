"""Lines of fields, parted at every single space, that are read field by field."""

from stoodthen.deskevents import is_name
from stoodthen.errors import InvalidText
from stoodthen.lifetexts import is_figures


class Fields:
    """The fields of a line, which has this number in its text."""

    def __init__(self, line, text):
        self._line = line
        self._fields = text.split(" ")
        self._at = 0

    def ended(self):
        """Whether no field is left."""
        return self._at == len(self._fields)

    def ahead(self):
        """The next field; "" if none is left, which can stand nowhere."""
        return "" if self.ended() else self._fields[self._at]

    def take(self, may_stand):
        """The next field, which is read now, if it may stand."""
        if not may_stand:
            raise InvalidText(self._line, self._at)
        self._at += 1
        return self._fields[self._at - 1]

    def take_word(self, words):
        """The next field, one of these words."""
        return self.take(self.ahead() in words)

    def take_name(self):
        """The next field, a name."""
        return self.take(is_name(self.ahead()))

    def take_number(self):
        """The number that the next field tells."""
        return int(self.take(is_figures(self.ahead())))

    def take_numbers(self):
        """The tuple of all numbers that follow, at least one."""
        numbers = [self.take_number()]
        while is_figures(self.ahead()):
            numbers.append(self.take_number())
        return tuple(numbers)

    def take_many(self, many):
        """The tuple of so many numbers."""
        numbers = []
        # A line ends long before a number as great as many may be.
        while len(numbers) < many:
            numbers.append(self.take_number())
        return tuple(numbers)

    def need_end(self):
        """Refuse a field behind the last one that may stand."""
        if not self.ended():
            raise InvalidText(self._line, self._at)


def text_lines(text):
    """The lines of a text, parted at every newline; none of ""."""
    return [] if text == "" else text.split("\n")


def line_of(thing):
    """The line of what stands in a tuple in sequence, also within its tuples, one space between each two."""
    return " ".join(flat_fields(thing))


def flat_fields(thing):
    """The list of the fields of a number, a string, or a tuple of such and of tuples."""
    if not isinstance(thing, tuple):
        return [str(thing)]
    return [field for part in thing for field in flat_fields(part)]
