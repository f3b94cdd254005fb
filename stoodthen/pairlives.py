"""The longest lives of two dials: how many, and by which sequences of values and turns."""

from math import comb, factorial

from stoodthen.errors import need
from stoodthen.kinds import is_integer, is_order
from stoodthen.lives import is_lean, life_of


def is_pair_size(thing):
    """Whether thing is an integer from 2 to 6."""
    return is_integer(thing) and 2 <= thing <= 6


def pair_many(one, other):
    """How many longest lives two dials of these sizes have."""
    need(is_pair_size(one), "one")
    need(is_pair_size(other), "other")
    return factorial(one) * factorial(other) * comb(one + other - 2, one - 1)


def pair_life(firsts, seconds, word):
    """The lean life that goes through the values of both dials as the word tells."""
    need(is_values(firsts), "firsts")
    need(is_values(seconds), "seconds")
    need(is_word_of(word, len(firsts) - 1, len(seconds) - 1), "word")
    left = 0
    rows = [(firsts[0], seconds[0])]
    for place, dial in enumerate(word):
        left += 1 - dial
        rows.append((firsts[left], seconds[place + 1 - left]))
    return life_of((len(firsts), len(seconds)), tuple(rows))


def is_values(thing):
    """Whether thing has all values of a size from 2 to 6, each once."""
    return isinstance(thing, tuple) and is_pair_size(len(thing)) and is_order(len(thing), thing)


def is_word_of(thing, noughts, ones):
    """Whether thing is a tuple of so many noughts and ones, in any sequence."""
    if not isinstance(thing, tuple):
        return False
    if not all([is_integer(dial) and 0 <= dial <= 1 for dial in thing]):
        return False
    return len(thing) == noughts + ones and sum(thing) == ones


def pair_parts(life):
    """The triple (firsts, seconds, word) by which pair_life gives the life."""
    dials, spots = life
    need(len(dials) == 2 and is_lean(life), "life")
    rows = [row for row, _ in spots]
    word = tuple([1 if row[0] == ahead[0] else 0 for row, ahead in zip(rows, rows[1:])])
    firsts, seconds = [values_gone_through(rows, word, dial) for dial in range(2)]
    need(is_values(firsts) and len(firsts) == dials[0], "life")
    need(is_values(seconds) and len(seconds) == dials[1], "life")
    return (firsts, seconds, word)


def values_gone_through(rows, word, dial):
    """The tuple of the first value of the dial and those to which it is turned."""
    turned = [row[dial] for row, at in zip(rows[1:], word) if at == dial]
    return (rows[0][dial], *turned)


def pair_lives(one, other):
    """All lives that pair_life gives for the two sizes, by their triples, ascending, one by one."""
    need(is_pair_size(one), "one")
    need(is_pair_size(other), "other")
    words = all_words(one - 1, other - 1)
    for firsts in all_orders(one):
        for seconds in all_orders(other):
            for word in words:
                yield pair_life(firsts, seconds, word)


def all_orders(many):
    """The ascending list of all sequences of the numbers below many."""
    orders = [()]
    for _ in range(many):
        orders = [(*order, more) for order in orders for more in range(many) if more not in order]
    return orders


def all_words(noughts, ones):
    """The ascending list of all sequences of so many noughts and ones."""
    words = [()]
    for _ in range(noughts + ones):
        words = [(*word, dial) for word in words for dial in range(2) if may_follow(word, dial, noughts, ones)]
    return words


def may_follow(word, dial, noughts, ones):
    """Whether there is a further dial of these for the word."""
    return word.count(dial) < (ones if dial else noughts)
