"""Slices as lines of text."""

from stoodthen.errors import InvalidRow, need
from stoodthen.fieldreaders import Fields, text_lines
from stoodthen.slicekinds import is_pass, is_slice, is_slices


def slice_line(piece):
    """The line of the slice: its entries, one space between each two."""
    need(is_slice(piece) or is_pass(piece), "piece")
    return " ".join([str(entry) for entry in piece])


def slices_text(slices):
    """The lines of the slices, parted by newlines."""
    need(is_slices(slices), "slices")
    return "\n".join([slice_line(piece) for piece in slices])


def read_slices(text):
    """The slices with this text."""
    need(isinstance(text, str), "text")
    slices = [slice_from(Fields(number, line)) for number, line in enumerate(text_lines(text))]
    no_line = [place for place, piece in enumerate(slices) if not is_slice(piece)]
    no_net = [place for place, piece in enumerate(slices) if not is_pass(piece)]
    if no_line and no_net:
        raise InvalidRow(max(no_line[0], no_net[0]))
    return tuple(slices)


def slice_from(fields):
    """The slice that a line tells."""
    word = fields.take_word(("go", "pass", "begin", "end", "look", "halt"))
    piece = [word]
    if word in ("pass", "look", "halt") or (word == "begin" and not fields.ended()):
        piece.append(fields.take_number())
    if word == "look":
        piece.append(fields.take_word(("old", "new")))
    fields.need_end()
    return tuple(piece)
