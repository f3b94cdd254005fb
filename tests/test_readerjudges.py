"""[30], [32]: readers judged, and watches that show one wrong."""

import itertools
import unittest

from stoodthen.machines import machine_by, machine_of, stepping_back
from stoodthen.readables import is_readable
from stoodthen.readerjudges import judged_reader, lets_wrong, wrong_watch
from stoodthen.rightstages import answer_table, is_safe
from stoodthen.seenviews import views_of
from tests import plain
from tests.samples import (
    KEPT, MB, MT, RING, RM, STILL, Promises, counted_life, random_machine, random_reader, samples)

TURNING = (("look", 0, (0, 1)), ("tell", 0))
GOOD = (("look", 0, (1, 2)), ("tell", 0), ("look", 1, (3, 4)), ("tell", 1), ("tell", 2))


def machine_and_reader(rng):
    machine = random_machine(rng)
    return machine, random_reader(rng, machine[0])


CASES = samples(machine_and_reader, 400)
BAD_READERS = (None, (), 0, "", list(GOOD), (("look", 0, (0, 2)),), (("tell", True),), (("look", 2, (0, 0)),), (None,))


def reader_by(machine, tour, table):
    """A reader that makes the looks of the tour and tells what the table has."""
    steps = []

    def grow(view):
        place = len(steps)
        steps.append(None)
        if len(view) == len(tour):
            steps[place] = ("tell", table.get(view, 0))
        else:
            dial = tour[len(view)]
            steps[place] = ("look", dial, tuple(grow((*view, value)) for value in range(machine[0][dial])))
        return place

    grow(())
    return tuple(steps)


class Judged(Promises):

    def test_examples(self):
        self.gives("endless", judged_reader, MB, TURNING)
        self.gives("wrong", judged_reader, MT, (("look", 1, (1, 2)), ("tell", 0), ("tell", 2)))
        self.gives("right", judged_reader, MT, GOOD)
        self.gives(((1,), (0,)), wrong_watch, MT, (("look", 1, (1, 2)), ("tell", 0), ("tell", 2)))
        self.gives(None, wrong_watch, MT, GOOD)

    def test_telling_at_once(self):
        self.gives("right", judged_reader, machine_of(STILL), (("tell", 0),))
        self.gives("wrong", judged_reader, machine_of(STILL), (("tell", 1),))
        self.gives("wrong", judged_reader, MT, (("tell", 0),))
        self.gives(((1,), ()), wrong_watch, MT, (("tell", 0),))
        self.gives(((0,), ()), wrong_watch, MT, (("tell", 10 ** 69),))
        self.gives(None, wrong_watch, machine_of(STILL), (("tell", 0), ("tell", 1)))

    def test_steps_to_which_none_comes(self):
        self.gives("right", judged_reader, MT, (*GOOD, ("tell", 9), ("look", 0, (6, 6))))
        still = machine_of(STILL)
        self.gives("right", judged_reader, still, (("look", 0, (1, 2, 3)), ("look", 0, (1, 1, 1)), ("tell", 4),
                                                  ("tell", 0)))

    def test_watches_begin_at_any_spot(self):
        machine = ((2,), (((0,), 0), ((1,), 1)), ((0, 1),))
        self.gives("wrong", judged_reader, machine, (("look", 0, (1, 1)), ("tell", 0)))
        self.gives("endless", judged_reader, machine, (("look", 0, (1, 0)), ("tell", 0)))

    def test_endless_comes_before_wrong(self):
        reader = (("look", 0, (0, 1)), ("tell", 9))
        self.gives("endless", judged_reader, MB, reader)
        self.gives(9, lets_wrong, MB, reader, wrong_watch(MB, reader))

    def test_endless_only_by_going_to_and_fro(self):
        # Each value of the dial ends the loop but for one after the other.
        reader = (("look", 0, (1, 2)), ("look", 0, (2, 0)), ("tell", 0))
        to_and_fro = ((2,), (((0,), 0), ((1,), 0)), ((0, 1), (1, 0)))
        self.gives("endless", judged_reader, to_and_fro, reader)
        only_there = ((2,), (((0,), 0), ((1,), 0)), ((0, 1),))
        self.gives("right", judged_reader, only_there, reader)

    def test_beside_the_definition(self):
        words = {}
        for machine, reader in CASES:
            word = plain.judged(machine, reader)
            words[word] = words.get(word, 0) + 1
            self.gives(word, judged_reader, machine, reader)
            watch = wrong_watch(machine, reader)
            self.assertEqual(watch is not None, plain.tells_wrong(machine, reader))
            if watch is not None:
                told = lets_wrong(machine, reader, watch)
                self.assertNotIn(told, {machine[1][spot][1] for spot in watch[0]})
        self.assertGreater(min(words.values()), 15)

    def test_readers_by_tables(self):
        for machine, _ in CASES[:120]:
            for tour in ((0,), tuple(range(len(machine[0]))), (0, len(machine[0]) - 1, 0)):
                if is_safe(machine, tour):
                    reader = reader_by(machine, tour, dict(answer_table(machine, tour)))
                    self.gives("right", judged_reader, machine, reader)
                    self.gives(None, wrong_watch, machine, reader)

    def test_wrong_only_by_moving(self):
        told = {(0, 0): 0, (0, 1): 1, (1, 1): 2, (1, 0): 3}
        reader = reader_by(MB, (0, 1), told)
        self.gives("wrong", judged_reader, MB, reader)
        self.gives(((1, 2, 3), (0, 2)), wrong_watch, MB, reader)
        late = (("look", 0, (0, 1)), ("look", 1, (2, 3)), ("tell", 9), ("tell", 2))
        self.gives(((3,), (0, 0)), wrong_watch, MB, late)

    def test_one_wrong_answer_in_a_right_table(self):
        for machine, _ in CASES[:150]:
            for tour in ((0,), tuple(range(len(machine[0]))), (0, len(machine[0]) - 1, 0)):
                table = dict(answer_table(machine, tour)) if is_safe(machine, tour) else {}
                for view in table:
                    right = plain.right_stages(machine, tour, view)
                    for told in (9, *(stage for stage in plain.stages(machine) if stage not in right)):
                        reader = reader_by(machine, tour, {**table, view: told})
                        self.gives("wrong", judged_reader, machine, reader)
                        self.gives(told, lets_wrong, machine, reader, wrong_watch(machine, reader))

    def test_other_tellings_end_the_looks(self):
        # The number 5 is told at once, 0 is the least one told wrong, and behind it.
        reader = (("look", 0, (1, 2)), ("tell", 5), ("look", 1, (3, 4)), ("tell", 0), ("tell", 2))
        self.gives("wrong", judged_reader, MB, reader)
        watch = wrong_watch(MB, reader)
        self.assertIn(lets_wrong(MB, reader, watch), (0, 5))
        far = (("look", 0, (1, 2)), ("tell", 0), ("look", 1, (3, 4)), ("tell", 1), ("tell", 2))
        walk = ((2,), (((0,), 0), ((1,), 2), ((0,), 1)), ((0, 1), (1, 2)))
        both = ((2, 2), tuple(((row[0], 0), stage) for row, stage in walk[1]), walk[2])
        self.gives(((1,), (0, 0)), wrong_watch, both, (("look", 0, (1, 2)), ("tell", 7), ("look", 1, (3, 3)),
                                                      ("tell", 0)))
        self.gives("wrong", judged_reader, both, far)

    def test_none_is_right_for_what_is_not_readable(self):
        for machine, reader in CASES:
            if judged_reader(machine, reader) == "right":
                self.gives(True, is_readable, machine)
        for told in itertools.product(range(3), repeat=8):
            if told[0] == 0 and told[1] < 2:
                table = dict(zip(itertools.product((0, 1), repeat=3), told))
                self.gives("wrong", judged_reader, RM, reader_by(RM, (0, 1, 2), table))

    def test_refused(self):
        for reader in BAD_READERS:
            self.refuses("reader", judged_reader, MT, reader)
            self.refuses("reader", wrong_watch, MT, reader)
            self.refuses("reader", lets_wrong, MT, reader, None)


class Checker(Promises):

    def test_wrong_watches(self):
        self.gives(0, lets_wrong, MT, (("look", 1, (1, 2)), ("tell", 0), ("tell", 2)), ((1,), (0,)))
        self.gives(5, lets_wrong, MT, (("tell", 5),), ((2,), ()))
        ring = (("look", 0, (0, 1)), ("tell", 0))
        self.gives(0, lets_wrong, MB, ring, ((1, 2, 3), (0, 0, 0, 2)))

    def test_words(self):
        reader = (("look", 0, (0, 1)), ("look", 1, (2, 3)), ("tell", 0), ("tell", 2))
        self.gives(0, lets_wrong, MB, reader, ((3,), (0, 0)))
        for thing in (None, (), ((3,),), ((3,), (0, 0), ()), [(3,), (0, 0)], 0, ""):
            self.rejects("shape", -1, lets_wrong, MB, reader, thing)
        for walk in (None, (), (4,), (0, 2), (1, 0), (0, 0), [3], (True,), 0, "3"):
            self.rejects("walk", -1, lets_wrong, MB, reader, (walk, None))
        bad = [None, (), (1,), (0, 1), (0, 0, 1), (1, 2), (0, 2, 1), (0, True), (False, 2), [0, 2], (-1, 2), (2, 0), 0,
               "02"]
        for moments in bad:
            self.rejects("moments", -1, lets_wrong, MB, reader, ((1, 2, 3), moments))
        # It tells behind the second look here; what comes then is no look.
        self.rejects("moments", -1, lets_wrong, MB, reader, ((3,), (0, 0, 0)))
        self.rejects("moments", -1, lets_wrong, MB, reader, ((2, 3), (0, 0, 1)))
        self.rejects("end", -1, lets_wrong, MB, reader, ((3,), (0,)))
        self.rejects("end", -1, lets_wrong, MB, reader, ((0, 1), (0, 1)))
        self.rejects("met", -1, lets_wrong, MB, reader, ((2,), (0, 0)))
        self.rejects("met", -1, lets_wrong, MB, reader, ((0, 1, 2), (0, 2, 2)))
        self.gives(0, lets_wrong, MB, reader, ((1, 2, 3), (0, 0, 2, 2)))

    def test_telling_at_once(self):
        reader = (("tell", 1),)
        self.gives(1, lets_wrong, MT, reader, ((0,), ()))
        self.rejects("met", -1, lets_wrong, MT, reader, ((1,), ()))
        for walk in (None, (), (3,), (0, 1), (True,), [0]):
            self.rejects("walk", -1, lets_wrong, MT, reader, (walk, ()))
        for moments in (None, (0,), (0, 0), [], 0, ""):
            self.rejects("moments", -1, lets_wrong, MT, reader, ((0,), moments))

    def test_all_papers_of_small_machines(self):
        for machine, reader in CASES[:60]:
            if len(machine[1]) > 3:
                continue
            for many in (1, 2, 3):
                for walk in itertools.product(range(len(machine[1])), repeat=many):
                    for looks in range(4):
                        for moments in itertools.product(range(many), repeat=looks):
                            self.same_word(machine, reader, walk, moments)

    def same_word(self, machine, reader, walk, moments):
        word = told = None
        steps = [0]
        for moment in moments:
            if reader[steps[-1]][0] == "look":
                steps.append(reader[steps[-1]][2][machine[1][walk[moment]][0][reader[steps[-1]][1]]])
        met = {machine[1][spot][1] for spot in walk}
        tour = (0,) * len(moments)
        at_once = reader[0][0] == "tell"
        if not all(move in machine[2] for move in zip(walk, walk[1:])) or (at_once and len(walk) > 1):
            word = "walk"
        elif not plain.is_watch(machine, tour, walk, moments) or (moments == ()) != at_once:
            word = "moments"
        elif len(steps) <= len(moments):
            word = "moments"
        elif reader[steps[-1]][0] == "look":
            word = "end"
        elif reader[steps[-1]][1] in met:
            word = "met"
        else:
            told = reader[steps[-1]][1]
        if word is None:
            self.gives(told, lets_wrong, machine, reader, (walk, moments))
        else:
            self.rejects(word, -1, lets_wrong, machine, reader, (walk, moments))


class Large(Promises):

    def test_long_readers(self):
        machine = machine_of(counted_life((2,) * 8, 256))
        chain = tuple(("look", step % 8, (step + 1, min(step + 2, 399))) for step in range(399)) + (("tell", 0),)
        self.gives("wrong", judged_reader, machine, chain)
        self.gives(0, lets_wrong, machine, chain, wrong_watch(machine, chain))
        back = (("look", 0, (399, 398)),) + tuple(
            ("look", step % 8, (step - 1, max(step - 2, 0))) for step in range(1, 400))
        self.gives("endless", judged_reader, machine, back)
        self.gives(None, wrong_watch, machine, back)

    def test_two_hundred_answers(self):
        sizes = (2, 3, 4, 3, 2)
        machine = machine_of(counted_life((2, 3, 4), 24))
        tour = (0, 1, 2, 1, 0)
        self.assertEqual(plain.product(sizes), 144)
        reader = reader_by(machine, tour, dict(answer_table(machine, tour)))
        self.assertLessEqual(len(reader), 400)
        self.gives("right", judged_reader, machine, reader)
        wrong = tuple(("tell", 23) if step == ("tell", 0) else step for step in reader)
        self.gives("wrong", judged_reader, machine, wrong)
        self.gives(23, lets_wrong, machine, wrong, wrong_watch(machine, wrong))

    def test_stepping_back(self):
        life = counted_life((2,) * 6, 60)
        machine = stepping_back(life[0], tuple(row for row, _ in life[1]), 4)
        reader = reader_by(machine, (0, 1, 2), {view: 0 for view in views_of(machine, (0, 1, 2))})
        self.gives("wrong", judged_reader, machine, reader)
        self.gives(0, lets_wrong, machine, reader, wrong_watch(machine, reader))

    def test_kept(self):
        self.gives("right", judged_reader, machine_by(RING, (3,), ((0,), (1,), (2,))), (
            ("look", 0, (1, 2, 3)), ("tell", 0), ("tell", 1), ("tell", 2)))
        self.gives("wrong", judged_reader, machine_of(KEPT), (("look", 1, (1, 1, 2)), ("tell", 0), ("tell", 1)))


if __name__ == "__main__":
    unittest.main()
