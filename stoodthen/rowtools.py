"""Rows of dials: how many, by their numbers, and under other names."""

from stoodthen.errors import need
from stoodthen.kinds import is_below, is_names, is_row


def rows_many(dials):
    """The product of all sizes."""
    many = 1
    for size in dials:
        many *= size
    return many


def row_number(dials, row):
    """How many rows are less than row."""
    need(is_row(dials, row), "row")
    number = 0
    for size, value in zip(dials, row):
        number = number * size + value
    return number


def row_by(dials, number):
    """The row whose row_number is number."""
    need(is_below(number, rows_many(dials)), "number")
    values = []
    rest = number
    for size in reversed(dials):
        values.append(rest % size)
        rest //= size
    return tuple(values[::-1])


def all_rows(dials):
    """All rows, ascending, one by one."""
    for number in range(rows_many(dials)):
        yield row_by(dials, number)


def unlike_dials(dials, row, other):
    """The lot of dials in which the two rows differ."""
    need(is_row(dials, row), "row")
    need(is_row(dials, other), "other")
    return tuple([dial for dial in range(len(dials)) if row[dial] != other[dial]])


def renamed_row(dials, row, names):
    """The row in which each dial shows entry v of its names for v."""
    need(is_row(dials, row), "row")
    need(is_names(dials, names), "names")
    return tuple([names[dial][value] for dial, value in enumerate(row)])
