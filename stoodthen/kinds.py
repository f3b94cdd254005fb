"""Of which kind a value is: integers, dials, rows, tours, views and lots."""

from stoodthen.errors import need


def is_integer(thing):
    """Whether thing is an int that is not a bool."""
    return isinstance(thing, int) and not isinstance(thing, bool)


def is_number(thing):
    """Whether thing is an integer that is at least 0."""
    return is_integer(thing) and thing >= 0


def is_stages(thing):
    """Whether thing is an integer of at least 1, as a number of stages is."""
    return is_integer(thing) and thing >= 1


def is_below(thing, bound):
    """Whether thing is a number below bound."""
    return is_number(thing) and thing < bound


def is_tuple_of(thing, many):
    """Whether thing is a tuple of so many values."""
    return isinstance(thing, tuple) and len(thing) == many


def is_filled_tuple(thing):
    """Whether thing is a tuple, not ()."""
    return isinstance(thing, tuple) and len(thing) > 0


def is_size(thing):
    """Whether thing is an integer of at least 2."""
    return is_integer(thing) and thing >= 2


def is_sizes(thing):
    """Whether thing is a tuple, possibly (), of sizes."""
    return isinstance(thing, tuple) and all([is_size(size) for size in thing])


def is_dials(thing):
    """Whether thing is a tuple, not (), of sizes."""
    return is_sizes(thing) and thing != ()


def is_row(dials, thing):
    """Whether thing has a value of each dial."""
    if not is_tuple_of(thing, len(dials)):
        return False
    return all([is_below(value, size) for value, size in zip(thing, dials)])


def is_rows(dials, thing):
    """Whether thing is a tuple, not (), of rows of the dials."""
    return is_filled_tuple(thing) and all([is_row(dials, row) for row in thing])


def is_tour(dials, thing):
    """Whether thing is a tuple, possibly (), of dials."""
    if not isinstance(thing, tuple):
        return False
    return all([is_below(dial, len(dials)) for dial in thing])


def is_view(dials, tour, thing):
    """Whether thing has a value of the dial looked at for each look."""
    need(is_tour(dials, tour), "tour")
    return is_row([dials[dial] for dial in tour], thing)


def is_lot(bound, thing):
    """Whether thing is an ascending tuple of numbers below bound."""
    if not isinstance(thing, tuple):
        return False
    if not all([is_below(number, bound) for number in thing]):
        return False
    return all([one < other for one, other in zip(thing, thing[1:])])


def is_order(many, thing):
    """Whether thing has each number below many once, in any sequence."""
    if not is_tuple_of(thing, many):
        return False
    return all([is_below(number, many) for number in thing]) and len(set(thing)) == many


def is_names(dials, thing):
    """Whether thing has, for each dial, a tuple of all its values, each once."""
    if not is_tuple_of(thing, len(dials)):
        return False
    return all([is_order(size, names) for names, size in zip(thing, dials)])
