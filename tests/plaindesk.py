"""Works, events and claims, one done after the other, as the definitions say."""

from stoodthen.dealings import dealing_of, mixed_of
from stoodthen.holdkinds import is_holding
from stoodthen.kinds import is_dials
from stoodthen.nestkinds import is_nest
from stoodthen.netchecker import is_net
from stoodthen.nets import hung_on, line_net, ring_net, star_net
from stoodthen.toldanswers import told_stage
from tests import plain, plainnets
from tests.samples import BOW, KITE, PAIR, POINT, RING, ROW

NETS = (POINT, PAIR, ROW, RING, KITE, BOW, line_net(4), star_net(4), ring_net(4), (1, ()))
NAMES = ("a", "b", "zz", "abcdefghijkl")


def is_integer(thing, least):
    return type(thing) is int and thing >= least


def is_name(thing):
    return type(thing) is str and 0 < len(thing) < 13 and set(thing) <= set("abcdefghijklmnopqrstuvwxyz")


def is_held(net, dials, holding):
    return is_net(net) and is_dials(dials) and is_holding(net, dials, holding)


def is_event(thing):
    if type(thing) is not tuple or not thing or type(thing[0]) is not str:
        return False
    word, rest = thing[0], thing[1:]
    lengths = {"line": 3, "net": 4, "go": 2, "pass": 2, "grow": 2, "hang": 5, "drop": 1, "day": 0}
    if lengths.get(word) != len(rest) or (rest and not is_name(rest[0])):
        return False
    if word == "line":
        return is_nest((rest[1], rest[2]))
    if word == "net":
        return is_held(*rest[1:])
    if word == "hang":
        return is_integer(rest[1], 0) and is_held(*rest[2:])
    return word in ("drop", "day") or is_integer(rest[1], {"go": 1, "pass": 0, "grow": 2}[word])


def nest_dials(nest):
    return nest[0] + nest[1]


def held(nest):
    return plain.product(nest[0]) * plain.least_cut(nest[1])


class Desk:
    """Works in a dict by their names, each a list; and a log."""

    def __init__(self, works=()):
        self.named = {name: list(work) for name, work in works}

    def works(self):
        return tuple((name, tuple(self.named[name])) for name in sorted(self.named))

    def reason(self, event):
        if not is_event(event):
            return "shape"
        word = event[0]
        if word == "day":
            return None
        work = self.named.get(event[1])
        if (word in ("line", "net")) == (work is not None):
            return "name"
        if word in ("go", "grow") and work[0] != "line":
            return "line"
        if word in ("pass", "hang") and work[0] != "net":
            return "net"
        if word == "go" and work[2] + event[2] >= held(work[1]):
            return "room"
        if word == "hang" and event[2] >= work[1][0]:
            return "stage"
        if word == "pass" and not plainnets.tied(work[1], work[5], event[2]):
            return "tie"
        if word == "grow":
            dials = (event[2], *nest_dials(work[1]))
            return "size" if len(dials) > 200 or plain.product(dials) > 10 ** 60 else None
        if word == "hang":
            whole = hung_on(work[1], event[2], event[3])
            too_many = whole[0] > 12 or len(whole[1]) > 24 or len(work[2]) + len(event[4]) > 24
            return "size" if too_many else None
        return None

    def do(self, event):
        word, *rest = event
        if word == "day":
            return
        name, *rest = rest
        work = self.named.get(name)
        if word == "line":
            self.named[name] = ["line", tuple(rest), 0, 0]
        elif word == "net":
            self.named[name] = ["net", *rest, (0,) * len(rest[1]), 0, 0]
        elif word == "drop":
            del self.named[name]
        elif word == "go":
            work[2] += rest[0]
        elif word == "pass":
            work[4] = plainnets.behind(*work[1:4], work[4], work[5], rest[0])
            work[5] = rest[0]
        elif word == "grow":
            work[1] = ((rest[0], *work[1][0]), work[1][1])
            work[3] += 1
        else:
            self.hang(work, *rest)

    def hang(self, work, stage, other, more, told):
        _, net, dials, holding, row, _, hung = work
        entries = dict(zip(plain.blocks_of(net), holding))
        for lot, (word, places) in zip(plain.blocks_of(other), told):
            there = tuple(stage if number == 0 else net[0] + number - 1 for number in lot)
            entries[there] = (word, places + len(dials) if word == "dial"
                              else tuple(place + len(dials) for place in places))
        work[1] = hung_on(net, stage, other)
        work[2] = dials + more
        work[3] = tuple(entries[lot] for lot in plain.blocks_of(work[1]))
        work[4] = row + (0,) * len(more)
        work[6] = hung + 1

    def row(self, name):
        work = self.named[name]
        return tuple(plain.nest_rows(*work[1])[work[2]]) if work[0] == "line" else work[4]

    def stage(self, name):
        work = self.named[name]
        return work[2] if work[0] == "line" else work[5]

    def held(self, name):
        work = self.named[name]
        return held(work[1]) if work[0] == "line" else work[1][0]

    def holds(self, claim):
        word, *rest = claim
        if word == "not":
            return not self.holds(rest[0])
        if word in ("both", "either"):
            told = [self.holds(part) for part in rest]
            return all(told) if word == "both" else any(told)
        name, thing = rest
        if name not in self.named:
            return False
        if word == "at":
            return self.stage(name) == thing
        if word == "row":
            return self.row(name) == thing
        return self.named[name][0] == "line" and self.stage(name) + thing < self.held(name)

    def told(self, name, seen):
        work = self.named[name]
        if work[0] == "line":
            return told_stage(work[1], seen)
        return plainnets.sinks(work[1], plainnets.told_gates(*work[1:4], seen))[0]


def holding_in(rng, net):
    """Some dials, and a holding of the net in them."""
    while True:
        dials = tuple(rng.choice((2, 2, 2, 3, 4, 5)) for _ in range(rng.randint(1, 5)))
        holding = rng.choice((dealing_of, mixed_of))(net, dials)
        if holding is not None:
            return dials, holding


def random_event(rng, desk):
    """An event, most often one that is let, of small works."""
    name = rng.choice(NAMES)
    work = desk.named.get(name)
    if work is None or rng.random() < 0.05:
        if rng.random() < 0.5:
            nests = (((), (2, 2)), ((2,), (2,)), ((3,), ()), ((), (3, 2)), ((2, 2), ()), ((), (4,)), ((), (2, 2, 2)))
            return ("line", name, *rng.choice(nests))
        net = rng.choice(NETS)
        return ("net", name, net, *holding_in(rng, net))
    if rng.random() < 0.14:
        return rng.choice((("day",), ("day",), ("drop", name)))
    if (work[0] == "line") == (rng.random() < 0.93):
        if rng.random() < 0.75:
            return ("go", name, rng.choice((1, 1, 2, 3)))
        return ("grow", name, rng.choice((2, 2, 3)))
    if rng.random() < 0.7:
        stages = work[1][0] if work[0] == "net" else 3
        return ("pass", name, rng.randrange(stages + 1))
    other = rng.choice((PAIR, ROW, RING, POINT, KITE, line_net(6)))
    stages = work[1][0] if work[0] == "net" else 3
    return ("hang", name, rng.choice((0, 0, stages - 1, stages - 1, stages)), other, *holding_in(rng, other))


def random_log(rng, many, most=120):
    """So many events that are let, of nests that hold no more than most stages, and the desk behind them."""
    desk = Desk()
    log = []
    while len(log) < many:
        event = random_event(rng, desk)
        if event[0] == "grow" and event[1] in desk.named and desk.held(event[1]) * event[2] > most:
            continue
        if desk.reason(event) is None:
            desk.do(event)
            log.append(event)
    return tuple(log), desk


def random_claim(rng, desk, most):
    word = rng.choice(("at", "row", "room", "at", "row") + (("not", "both", "either") * 2 if most else ()))
    if word == "not":
        return (word, random_claim(rng, desk, most - 1))
    if word in ("both", "either"):
        return (word, random_claim(rng, desk, most - 1), random_claim(rng, desk, most - 1))
    name = rng.choice(NAMES)
    known = name in desk.named
    if word == "row":
        row = desk.row(name) if known and rng.random() < 0.6 else tuple(rng.randrange(3)
                                                                        for _ in range(rng.randint(1, 3)))
        return (word, name, row)
    near = desk.stage(name) if known else 2
    return (word, name, max(0, near + rng.choice((-1, 0, 0, 1)))) if word == "at" else (word, name, rng.randrange(7))
