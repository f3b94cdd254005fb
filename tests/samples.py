"""Values that several tests use, and what they ask in the same way."""

import itertools
import random
import unittest

from stoodthen.errors import InvalidPaper, InvalidRow, InvalidText, NotUsable
from stoodthen.lifechecker import lets_life
from stoodthen.machinechecker import lets_machine
from stoodthen.machines import machine_by, machine_of
from tests import plain

TWO = ((2, 2), (((0, 0), 0), ((1, 0), 1), ((1, 1), 2)))
BOTH = ((2, 2), (((0, 0), 0), ((0, 1), 1), ((1, 1), 2), ((1, 0), 3)))
RING = (3, ((0, 1), (0, 2), (1, 2)))
ROW = (3, ((0, 1), (1, 2)))
KITE = (4, ((0, 1), (0, 2), (1, 2), (2, 3)))
POINT = (1, ())
PAIR = (2, ((0, 1),))
SQUARE = (4, ((0, 1), (0, 3), (1, 2), (2, 3)))
STAR = (4, ((0, 1), (0, 2), (0, 3)))
# Two rings with a hinge; a ring with a tie between two blocks; a ring through which a tie goes.
BOW = (5, ((0, 1), (0, 2), (1, 2), (2, 3), (2, 4), (3, 4)))
HANDLE = (5, ((0, 1), (1, 2), (1, 3), (2, 3), (3, 4)))
CHORD = (4, ((0, 1), (0, 2), (0, 3), (1, 2), (2, 3)))
# One spot; the same rows twice; a stage of several spots; a dial that jumps.
STILL = ((3,), (((2,), 0),))
KEPT = ((2, 3), (((0, 0), 0), ((0, 2), 0), ((1, 2), 1), ((1, 2), 1), ((0, 1), 2), ((0, 0), 2)))
MB = machine_of(BOTH)
MT = machine_of(TWO)
RM = machine_by(RING, (2, 2, 2), ((1, 0, 0), (0, 1, 0), (0, 0, 1)))

NEST = ((2,), (2,))

WIDE = (2,) * 199
HUGE = (10 ** 60,)
# The most dials, and the greatest sizes.
WIDE_NESTS = (
    (WIDE, ()), ((), WIDE), ((2,) * 100, (2,) * 99), ((7,) * 30, (3,) * 60), ((3, 2) * 20, (5, 2, 3) * 20),
    ((10 ** 30,), (10 ** 10,) * 3), (HUGE, ()), ((), HUGE), ((10 ** 29, 2), (5, 10 ** 30)),
)


def tuples_of(values, most):
    """All tuples of at most so many of the values."""
    return [row for many in range(most + 1) for row in itertools.product(values, repeat=many)]


# Nests of so few stages that they are laid out.
SMALL_NESTS = [(outer, inner) for outer in tuples_of((2, 3), 2) for inner in tuples_of((2, 3), 3)
               if outer + inner and plain.product(outer + inner) <= 110]
SMALL_NESTS += [((), (4, 5)), ((), (6, 2, 5)), ((), (2, 7, 3, 2)), ((5,), (4, 3)), ((4, 5), ()), ((3,), (2, 5, 2)),
                ((), (12, 12)), ((2, 2, 2), (2, 2)), ((2, 3, 4), ()), ((), (2,) * 7), ((), (9,)), ((7,), (8,))]

# What "any value" may be: no two of these are of one kind and form.
ODD = (
    None, True, False, 0, 1, -1, 10 ** 69, -(10 ** 69), "", "0", "look", " ", (), [], [()], ((),), (None,), ("",),
    (True,), (False, False), (-1,), [0], [0, 0], ([0],), ((0,),), (((0,),),), ("tell", 0), [[[[[]]]]],
    ((2, 2), (((0, 0), True),)), (0, 10 ** 69), tuple(range(5000)),
)


def counted_life(sizes, many):
    return (sizes, tuple((plain.counted_row(sizes, count), count) for count in range(many)))


def random_row(rng, dials):
    return tuple(rng.randrange(size) for size in dials)


def random_dials(rng, most=3):
    return tuple(rng.choice((2, 2, 3)) for _ in range(rng.randint(1, most)))


def random_life(rng, most=6):
    """Any life: rows as they come, stages that stay or go on."""
    dials = random_dials(rng)
    spots = [(random_row(rng, dials), 0)]
    for _ in range(rng.randrange(most)):
        spots.append((random_row(rng, dials), spots[-1][1] + rng.randrange(2)))
    return (dials, tuple(spots))


def random_lean_life(rng, most=7):
    dials = random_dials(rng)
    rows = [random_row(rng, dials)]
    for _ in range(rng.randrange(most)):
        dial = rng.randrange(len(dials))
        others = [value for value in range(dials[dial]) if value != rows[-1][dial]]
        rows.append(rows[-1][:dial] + (rng.choice(others),) + rows[-1][dial + 1:])
    return (dials, tuple((row, stage) for stage, row in enumerate(rows)))


def random_machine(rng, most=5):
    """Any small machine: each spot behind 0 has a move to it from a lower one."""
    dials = random_dials(rng)
    many = rng.randint(1, most)
    spots = tuple((random_row(rng, dials), rng.randrange(3)) for _ in range(many))
    moves = {(rng.randrange(spot), spot) for spot in range(1, many)}
    for _ in range(rng.randrange(2 * many) if many > 1 else 0):
        here, there = rng.sample(range(many), 2)
        moves.add((here, there))
    return (dials, spots, tuple(sorted(moves)))


def random_tour(rng, dials, most=4):
    return tuple(rng.randrange(len(dials)) for _ in range(rng.randrange(most + 1)))


def random_reader(rng, dials, stages=3, most=5):
    many = rng.randint(1, most)
    steps = []
    for place in range(many):
        if rng.random() < 0.6 and many > 1:
            dial = rng.randrange(len(dials))
            if rng.random() < 0.8 and place + 1 < many:
                nexts = tuple(rng.randrange(place + 1, many) for _ in range(dials[dial]))
            else:
                nexts = tuple(rng.randrange(many) for _ in range(dials[dial]))
            steps.append(("look", dial, nexts))
        else:
            steps.append(("tell", rng.randrange(stages)))
    return tuple(steps)


def samples(make, many, *more, seed=2026):
    """So many random values, the same ones in each run."""
    rng = random.Random(seed)
    return [make(rng, *more) for _ in range(many)]


def same(one, other):
    """Whether two values are equal, of the same kinds throughout: True is not 1."""
    if type(one) is not type(other):
        return False
    if isinstance(one, (tuple, list)):
        return len(one) == len(other) and all(same(a, b) for a, b in zip(one, other))
    return one == other


class Promises(unittest.TestCase):

    def gives(self, result, function, *arguments):
        """The function returns just this, and leaves what it was handed as it was."""
        before = repr(arguments)
        found = function(*arguments)
        self.assertTrue(same(found, result), (function.__name__, arguments, found, result))
        self.assertEqual(repr(arguments), before)

    def fails(self, error, fields, function, *arguments):
        """The function raises just this error with these fields."""
        before = repr(arguments)
        with self.assertRaises(error) as caught:
            function(*arguments)
        self.assertIs(type(caught.exception), error)
        self.assertTrue(same(tuple(vars(caught.exception).values()), fields),
                        (function.__name__, arguments, vars(caught.exception), fields))
        self.assertEqual(repr(arguments), before)

    def refuses(self, name, function, *arguments):
        self.fails(NotUsable, (name, -1), function, *arguments)

    def rejects(self, word, at, function, *arguments):
        self.fails(InvalidPaper, (word, at), function, *arguments)

    def unreadable(self, field, function, text):
        self.fails(InvalidText, (0, field), function, text)

    def no_value(self, row, function, text):
        self.fails(InvalidRow, (row,), function, text)

    def is_life(self, thing):
        self.assertEqual(lets_life(thing), thing[1][-1][1] + 1)

    def is_machine(self, thing):
        self.assertEqual(lets_machine(thing), len(thing[1]))
