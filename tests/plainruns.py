"""Runs of slices, one done after the other, as the definitions say."""

import random

from tests import plain, plainnets
from tests.test_weaktold import weakly_told

NUMBERS = (0, 1, 2, 3, 5)


def is_number(thing):
    return type(thing) is int and thing >= 0


def is_either(thing):
    if type(thing) is not tuple or not thing or type(thing[0]) is not str:
        return False
    if thing[0] == "end":
        return len(thing) == 1
    if thing[0] == "halt":
        return len(thing) == 2 and is_number(thing[1])
    return thing[0] == "look" and len(thing) == 3 and is_number(thing[1]) and thing[2] in ("old", "new")


def is_slice(thing):
    return thing in (("go",), ("begin",)) or is_either(thing)


def is_pass(thing):
    if type(thing) is tuple and len(thing) == 2 and thing[0] in ("pass", "begin"):
        return is_number(thing[1])
    return is_either(thing)


class Line:
    """The work of a nest that is laid out, with readers below many, or any for None."""

    def __init__(self, nest, many=None):
        self.rows_of = plain.nest_rows(*nest)
        self.nest, self.many = nest, many
        self.stage, self.ahead = 0, None
        self.halted, self.looks, self.log, self.rows, self.stood = set(), {}, [], [], []

    is_piece = staticmethod(is_slice)

    def barred(self, piece):
        """Why piece is barred, or None."""
        if not self.is_piece(piece):
            return "shape"
        word = piece[0]
        if word in ("look", "halt") and self.many is not None and piece[1] >= self.many:
            return "who"
        if word in ("go", "pass", "begin") and self.ahead is not None:
            return "turning"
        if word in ("go", "pass", "begin") and not self.may_go(piece):
            return self.no_way
        if word == "end" and self.ahead is None:
            return "still"
        if word in ("look", "halt") and piece[1] in self.halted:
            return "halted"
        return None

    no_way = "last"

    def may_go(self, _):
        return self.stage + 1 < len(self.rows_of)

    def target(self, _):
        return self.stage + 1

    def row_behind(self, stage):
        return self.rows_of[stage]

    def row_now(self):
        return self.rows_of[self.stage]

    def go_to(self, stage):
        self.stage = stage

    def tour(self, _):
        return plain.nest_tour(self.nest)

    def told(self, seen):
        view = tuple(value for _, _, value in seen)
        return view, weakly_told(self.nest, view)[1]

    def shows(self, dial, shade):
        row = self.row_now()
        if self.ahead is not None and shade == "new":
            row = self.row_behind(self.ahead)
        return row[dial]

    def stands(self):
        return tuple(sorted({self.stage} | ({self.ahead} if self.ahead is not None else set())))

    def do(self, piece):
        """Do a slice that is let."""
        word = piece[0]
        if word in ("go", "pass"):
            self.go_to(self.target(piece))
        elif word == "begin":
            self.ahead = self.target(piece)
        elif word == "end":
            ahead, self.ahead = self.ahead, None
            self.go_to(ahead)
        elif word == "halt":
            self.halted.add(piece[1])
        else:
            self.look(piece[1], piece[2])
        self.log.append(piece)
        self.stood.append(self.stands())

    def look(self, who, shade):
        seen = self.looks.setdefault(who, [])
        dial = self.tour(who)[len(seen)]
        seen.append((len(self.log), dial, self.shows(dial, shade)))
        if len(seen) == len(self.tour(who)):
            view, stage = self.told(seen)
            self.rows.append((who, seen[0][0], seen[-1][0], view, stage))
            self.looks[who] = []


class Net(Line):
    """The work of a holding, with a reader for each order."""

    no_way = "tie"
    is_piece = staticmethod(is_pass)

    def __init__(self, net, dials, holding, orders=None, many=None):
        self.held, self.orders = (net, dials, holding), orders
        self.row = (0,) * len(dials)
        self.many = len(orders) if orders is not None else many
        self.stage, self.ahead = 0, None
        self.halted, self.looks, self.log, self.rows, self.stood = set(), {}, [], [], []

    def may_go(self, piece):
        return piece[1] < self.held[0][0] and plainnets.tied(self.held[0], self.stage, piece[1])

    def target(self, piece):
        return piece[1]

    def row_behind(self, stage):
        return plainnets.behind(*self.held, self.row, self.stage, stage)

    def row_now(self):
        return self.row

    def go_to(self, stage):
        self.row = self.row_behind(stage)
        self.stage = stage

    def tour(self, who):
        return self.orders[who] if self.orders is not None else tuple(range(len(self.held[1])))

    def told(self, seen):
        row = tuple(value for _, _, value in sorted(seen, key=lambda look: look[1]))
        return row, plainnets.sinks(self.held[0], plainnets.told_gates(*self.held, row))[0]


def random_slices(rng, run, many, readers, steps):
    """So many slices that are let, done by the run; a look is likelier than any other slice."""
    for _ in range(many):
        pieces = [("look", rng.randrange(readers), rng.choice(("old", "new"))) for _ in range(6)]
        pieces += [rng.choice(steps), rng.choice(steps), ("end",)]
        if rng.random() < 0.05:
            pieces = [("halt", rng.randrange(readers))]
        let = [piece for piece in pieces if run.barred(piece) is None]
        if let:
            run.do(rng.choice(let))
    return tuple(run.log)


def line_slices(seed, nest, many=40, readers=3):
    """The run of random slices of the line of a nest, done."""
    run = Line(nest, readers)
    random_slices(random.Random(seed), run, many, readers, (("go",), ("begin",)))
    return run


def net_slices(seed, held, many=40, readers=3):
    """The run of random slices of a net, done, with an order of its own for each reader."""
    rng = random.Random(seed)
    places = range(len(held[1]))
    run = Net(*held, orders=tuple(tuple(rng.sample(places, len(places))) for _ in range(readers)))
    steps = [(word, stage) for word in ("pass", "begin") for stage in range(held[0][0])]
    random_slices(rng, run, many, readers, steps + steps[len(steps) // 2:])
    return run
