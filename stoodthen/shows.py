"""The stages of a nest at which a dial shows a value."""

from stoodthen.errors import need
from stoodthen.kinds import is_below
from stoodthen.leastcuts import least_cut
from stoodthen.meshes import counts_at, half_of, is_left, left_begins, right_begins
from stoodthen.nestkinds import nest_dials, nest_held
from stoodthen.nestrows import inner_shift, shifted
from stoodthen.rowtools import rows_many
from stoodthen.showncounts import last_count, next_count


def need_show(nest, dial, value, stage):
    """Refuse what is no dial of the nest, no value of it, or no stage."""
    dials = nest_dials(nest)
    need(is_below(dial, len(dials)), "dial")
    need(is_below(value, dials[dial]), "value")
    need(is_below(stage, nest_held(nest)), "stage")


def next_show(nest, dial, value, stage):
    """The least stage from this one on at which the dial shows the value, or None."""
    need_show(nest, dial, value, stage)
    many = block_stages(nest, dial)
    times, place = divmod(stage, many)
    found = next_in_block(nest, dial, block_value(nest, dial, value, times), place)
    if found is None:
        times += 1
        if times * many == nest_held(nest):
            return None
        found = next_in_block(nest, dial, block_value(nest, dial, value, times), 0)
    return times * many + found


def last_show(nest, dial, value, stage):
    """The greatest stage up to this one at which the dial shows the value, or None."""
    need_show(nest, dial, value, stage)
    many = block_stages(nest, dial)
    times, place = divmod(stage, many)
    found = last_in_block(nest, dial, block_value(nest, dial, value, times), place)
    if found is None:
        times -= 1
        if times < 0:
            return None
        found = last_in_block(nest, dial, block_value(nest, dial, value, times), many - 1)
    return times * many + found


# The life of a nest is told block by block: for an outer dial a block is all copies that this
# dial numbers, for an inner one the life of the inner sizes. From block to block the values of
# the dial are shifted, and in each block it shows each value.


def block_stages(nest, dial):
    """How many stages a block of the dial has."""
    outer, inner = nest
    return rows_many(outer[dial:]) * least_cut(inner)


def block_value(nest, dial, value, times):
    """What the dial shows in block 0 where it shows the value in block times."""
    outer, inner = nest
    if dial < len(outer):
        return shifted(outer[dial], value, -times, outer[dial] - 1)
    place = dial - len(outer)
    return shifted(inner[place], value, -times, inner_shift(inner)[place])


def next_in_block(nest, dial, value, place):
    """The least place of block 0 from this one on at which the dial shows the value, or None."""
    outer, inner = nest
    if dial >= len(outer):
        return next_in_core(inner, dial - len(outer), value, place)
    each = block_stages(nest, dial + 1)
    begins = value * each
    if begins + each <= place:
        return None
    return max(begins, place)


def last_in_block(nest, dial, value, place):
    """The greatest place of block 0 up to this one at which the dial shows the value, or None."""
    outer, inner = nest
    if dial >= len(outer):
        return last_in_core(inner, dial - len(outer), value, place)
    each = block_stages(nest, dial + 1)
    begins = value * each
    if begins > place:
        return None
    return min(begins + each - 1, place)


def next_in_core(inner, dial, value, place):
    """As next_in_block, for the life of the inner sizes alone."""
    if len(inner) == 1:
        return value if value >= place else None
    sizes, at = half_of(inner, dial)
    here = half_count(inner, dial, place)
    count = next_count(sizes, at, value, here)
    if count is None:
        return None
    return place if count == here else half_begins(inner, dial, count)


def last_in_core(inner, dial, value, place):
    """As last_in_block, for the life of the inner sizes alone."""
    if len(inner) == 1:
        return value if value <= place else None
    sizes, at = half_of(inner, dial)
    here = half_count(inner, dial, place)
    count = last_count(sizes, at, value, here)
    if count is None:
        return None
    return place if count == here else half_begins(inner, dial, count + 1) - 1


def half_count(inner, dial, place):
    """The count, left or right, by which the dial is told, at a stage of the inner sizes."""
    return counts_at(inner, place)[0 if is_left(inner, dial) else 1]


def half_begins(inner, dial, count):
    """The first stage of the inner sizes with this count, left or right, of the dial."""
    return left_begins(inner, count) if is_left(inner, dial) else right_begins(inner, count)
