"""The consequences [22], [32], [42], [48], [51], [62], [71], [82], [92] at drawn small values."""

import itertools
import random
import unittest

from stoodthen.answerpapers import answer_paper, lets_answer
from stoodthen.avoidpapers import avoid_paper, lets_avoiding
from stoodthen.beatings import beating, lets_beating
from stoodthen.bitnumbers import bits_held
from stoodthen.cutpapers import clash_at, cut_marks
from stoodthen.desk import Desk
from stoodthen.deskclaims import claim_line, read_claim
from stoodthen.desktexts import event_line, log_text, read_event, read_log
from stoodthen.errors import Unseen
from stoodthen.falls import fall_depth, fallen_pairs, remembered
from stoodthen.foolpapers import fool_paper, lets_fooling
from stoodthen.gaps import gap_bound, nested_form, tour_bound
from stoodthen.gates import gates_of
from stoodthen.growing import old_gate
from stoodthen.handed import bare_block, handed_told, is_trim
from stoodthen.heldrows import code_rows, rows_at
from stoodthen.leastcuts import least_cut
from stoodthen.lifechanges import renamed_life, reordered_life, turned_back
from stoodthen.lifespans import early_moments, late_moments, life_span
from stoodthen.lifetexts import life_line, read_life
from stoodthen.lineruns import line_run, stood_between
from stoodthen.lives import is_lean, stage_at
from stoodthen.looknumbers import looks_for_all, most_held
from stoodthen.machines import is_undo, machine_by, machine_of
from stoodthen.meshes import counts_at, halves_of, left_begins, right_begins, right_comes
from stoodthen.nestkinds import nest_dials, nest_held, nest_tour
from stoodthen.nestlives import life_by
from stoodthen.nestrows import row_at, shift_of
from stoodthen.nestturns import nest_turns, turn_at
from stoodthen.nettexts import net_line, read_net, read_reader, reader_line
from stoodthen.offtold import off_span
from stoodthen.orders import middle_of
from stoodthen.pairlives import pair_lives, pair_many
from stoodthen.readables import enough_sweeps, fooling_row, is_readable, sweep_tour
from stoodthen.readerjudges import judged_reader, lets_wrong, wrong_watch
from stoodthen.replaying import replayed
from stoodthen.returns import return_of, return_watches
from stoodthen.rightstages import is_safe, right_stages
from stoodthen.rowtools import rows_many, unlike_dials
from stoodthen.runchanges import alone, whole_turns
from stoodthen.seenviews import views_of
from stoodthen.sinks import held_told, told_gates
from stoodthen.tights import tight_code, tight_parts
from stoodthen.toandfro import counted_row
from stoodthen.toldanswers import is_seen, right_span, told_stage
from stoodthen.treereaders import nest_reader
from stoodthen.twolooks import lets_two_looks, two_looks
from stoodthen.undoruns import stood_lot, undo_run
from stoodthen.views import view_of
from stoodthen.viewspans import first_end, last_begin
from stoodthen.weakruns import line_reason
from stoodthen.weaktold import weak_stage
from tests import plain, plaindesk, plainnets, plainruns
from tests.heldsamples import HELD
from tests.samples import (
    SMALL_NESTS, Promises, random_dials, random_lean_life, random_life, random_machine, random_reader, random_row,
    random_tour, samples)
from tests.test_blocks import NETS
from tests.test_handed import CODES

NESTS = [nest for nest in SMALL_NESTS if nest_held(nest) <= 30]
LIVES = samples(random_life, 60, seed=22) + samples(random_lean_life, 60, seed=23)
MACHINES = samples(random_machine, 80, seed=32)


def life_and_tour(rng, most=4):
    life = rng.choice((random_life, random_lean_life))(rng)
    return life, (rng.randrange(len(life[0])), *random_tour(rng, life[0], most - 1))


class Stage3(Promises):
    """[22]"""

    def test_lives(self):
        rng = random.Random(22)
        for life in LIVES:
            dials = life[0]
            self.gives(life, turned_back, turned_back(life))
            names = tuple(tuple(rng.sample(range(size), size)) for size in dials)
            order = tuple(rng.sample(range(len(dials)), len(dials)))
            for changed in (turned_back(life), renamed_life(life, names), reordered_life(life, order)):
                self.gives(is_lean(life), is_lean, changed)
            self.gives(life, read_life, life_line(life))

    def test_nets_and_readers(self):
        rng = random.Random(23)
        for net in NETS[::3]:
            dials = random_dials(rng)
            rows = tuple(random_row(rng, dials) for _ in range(net[0]))
            self.gives(True, is_undo, machine_by(net, dials, rows))
            self.gives(net, read_net, net_line(net))
            reader = random_reader(rng, dials)
            self.gives((dials, reader), read_reader, reader_line(dials, reader))


class Stage6(Promises):
    """[32]"""

    def test_papers(self):
        rng = random.Random(32)
        papers = 0
        for machine in MACHINES:
            tour = random_tour(rng, machine[0], 3)
            reader = random_reader(rng, machine[0])
            for paper, lets, first in ((avoid_paper(machine, tour), lets_avoiding, (machine, tour)),
                                       (fool_paper(machine), lets_fooling, (machine,)),
                                       (wrong_watch(machine, reader), lets_wrong, (machine, reader))):
                if paper is not None:
                    papers += 1
                    lets(*first, paper)
        self.assertGreater(papers, 60)

    def test_two_looks(self):
        for life, tour in samples(life_and_tour, 120, seed=33):
            paper = two_looks(life, tour)
            self.assertEqual(paper is None, is_safe(machine_of(life), tour))
            if paper is not None:
                lets_two_looks(life, tour, paper)

    def test_more_looks(self):
        rng = random.Random(34)
        for machine in MACHINES[::2]:
            tour = random_tour(rng, machine[0], 2)
            place = rng.randrange(len(tour) + 1)
            more = (*tour[:place], rng.randrange(len(machine[0])), *tour[place:])
            if is_safe(machine, tour):
                self.gives(True, is_safe, machine, more)
            if tour:
                for view in views_of(machine, more):
                    old = view[:place] + view[place + 1:]
                    self.assertTrue(set(right_stages(machine, tour, old)) <= set(right_stages(machine, more, view)))

    def test_enough_sweeps(self):
        rng = random.Random(35)
        for machine in MACHINES:
            dials = machine[0]
            if fooling_row(machine) is None:
                sweeps = enough_sweeps(machine)
                if sweeps * len(dials) <= 8 and plain.product(dials) ** sweeps <= 600:
                    tour = tuple(dial for _ in range(sweeps) for dial in rng.sample(range(len(dials)), len(dials)))
                    self.gives(True, is_safe, machine, tour)
            else:
                self.gives(False, is_safe, machine, random_tour(rng, dials, 5))
                for _ in range(4):
                    self.assertNotEqual(judged_reader(machine, random_reader(rng, dials)), "right")

    def test_sweeps_of_lives(self):
        found = 0
        for life in LIVES:
            machine = machine_of(life)
            sweeps = len(life[1]) - 1
            if sweeps and plain.product(life[0]) ** sweeps <= 600 and is_readable(machine):
                found += 1
                self.gives(True, is_safe, machine, sweep_tour(life[0], sweeps))
        self.assertGreater(found, 10)


class Stage9(Promises):
    """[42]"""

    def test_clashes(self):
        clashes = 0
        for life, tour in samples(life_and_tour, 150, seed=42):
            safe = is_safe(machine_of(life), tour)
            for gap in range(len(tour) + 1):
                if "clash" not in cut_marks(life, tour, gap):
                    self.assertLessEqual(life[1][-1][1] + 1, gap_bound(life[0], tour, gap))
                    continue
                clashes += 1
                self.assertFalse(safe)
                one, other = clash_at(life, tour, gap)
                self.assertEqual(view_of(life, tour, one), view_of(life, tour, other))
                self.assertLess(stage_at(life, one[-1]), stage_at(life, other[0]))
        self.assertGreater(clashes, 20)

    def test_nested_forms(self):
        rng = random.Random(43)
        found = 0
        for nest in NESTS:
            self.gives(nest_held(nest), tour_bound, nest_dials(nest), nest_tour(nest))
        for _ in range(300):
            dials = random_dials(rng, 4)
            tour = random_tour(rng, dials, 5)
            form = nested_form(dials, tour)
            if form is not None:
                found += 1
                outer, inner = [tuple(dials[dial] for dial in part) for part in form]
                self.gives(rows_many(outer) * least_cut(inner), tour_bound, dials, tour)
        self.assertGreater(found, 30)

    def test_middles(self):
        rng = random.Random(44)
        for _ in range(200):
            sizes = tuple(rng.choice((2, 3, 5, 7)) for _ in range(rng.randint(2, 7)))
            place, ahead, behind = middle_of(sizes)
            size = sizes[place]
            self.gives(min(ahead + size * behind, size * ahead + behind) - 1, least_cut, sizes)

    def test_most_held(self):
        rng = random.Random(45)
        for _ in range(12):
            dials = random_dials(rng, 3)
            size = rng.choice((2, 3, 4))
            held = [most_held(dials, looks) for looks in range(2 * len(dials) + 2)]
            self.assertEqual(held, sorted(held))
            for looks, most in enumerate(held):
                self.assertEqual(most == rows_many(dials), looks >= looks_for_all(dials))
                self.assertGreaterEqual(most_held((*dials, size), looks + 2), size * most)

    def test_bits(self):
        rng = random.Random(46)
        for _ in range(200):
            many, looks = rng.randint(1, 60), rng.randrange(130)
            self.gives(2 * bits_held(many, looks) + (1 if looks < many else 0), bits_held, many + 1, looks + 2)


class Stage11(Promises):
    """[48]"""

    def test_counts(self):
        rng = random.Random(48)
        for _ in range(40):
            sizes = tuple(rng.choice((2, 3, 4)) for _ in range(rng.randint(1, 4)))
            rows = [counted_row(sizes, count) for count in range(rows_many(sizes))]
            self.assertEqual(rows[0], (0,) * len(sizes))
            for row, ahead in zip(rows, rows[1:]):
                self.assertEqual(sum(abs(one - other) for one, other in zip(row, ahead)), 1)

    def test_meshes(self):
        for inner in [nest[1] for nest in NESTS if not nest[0] and len(nest[1]) > 1]:
            lefts, rights, _, _ = halves_of(inner)
            comes = [right_comes(inner, right) for right in range(1, rights)]
            self.assertEqual(comes, sorted(comes))
            pairs = [counts_at(inner, stage) for stage in range(nest_held(((), inner)))]
            self.assertEqual([sum(pair) for pair in pairs], list(range(len(pairs))))
            begins = [left_begins(inner, left) for left in range(1,
                                                                 lefts)] + [right_begins(inner, right)
                                                                            for right in range(1, rights)]
            self.assertEqual(sorted(begins), list(range(1, len(pairs))))
            self.assertEqual([{pair[side] for pair in pairs} for side in (0, 1)],
                             [set(range(lefts)), set(range(rights))])

    def test_rows_and_turns(self):
        for nest in NESTS:
            dials = nest_dials(nest)
            rows = [row_at(nest, stage) for stage in range(nest_held(nest))]
            self.assertEqual((rows[0], rows[-1]), ((0,) * len(dials), shift_of(nest)))
            turned = []
            for stage in range(1, len(rows)):
                dial, value = turn_at(nest, stage)
                turned.append(dial)
                self.assertEqual((unlike_dials(dials, rows[stage - 1], rows[stage]), rows[stage][dial]),
                                 ((dial,), value))
            self.assertEqual([turned.count(dial) for dial in range(len(dials))],
                             [nest_turns(nest, dial) for dial in range(len(dials))])
            for dial, size in enumerate(nest[0]):
                self.gives((size - 1) * rows_many(nest[0][:dial]), nest_turns, nest, dial)


class Stage12(Promises):
    """[51]"""

    def test_torn_returns(self):
        torn = 0
        for life in samples(random_lean_life, 150, seed=51):
            tour = tuple(range(len(life[0])))
            found = return_of(life)
            if found is not None:
                torn += 1
                one, other = return_watches(life, *found)
                self.assertEqual(view_of(life, tour, one), view_of(life, tour, other))
                self.assertLess(stage_at(life, one[-1]), stage_at(life, other[0]))
                self.gives(False, is_safe, machine_of(life), tour)
        self.assertGreater(torn, 20)

    def test_pair_lives(self):
        for one, other in ((2, 2), (2, 3), (3, 2)):
            lives = list(pair_lives(one, other))
            self.assertEqual((len(lives), len(set(lives))), (pair_many(one, other),) * 2)
            for life in lives:
                self.assertTrue(is_lean(life) and len(life[1]) == one + other - 1 and is_safe(machine_of(life), (0, 1)))


class Stage15(Promises):
    """[62]"""

    def test_views(self):
        rng = random.Random(62)
        found = {True: 0, False: 0}
        for nest in NESTS:
            dials, tour = nest_dials(nest), nest_tour(nest)
            life = life_by(nest, nest_held(nest))
            seen = plain.views_by_life(life, tour)
            for view in [tuple(rng.randrange(dials[dial]) for dial in tour)
                         for _ in range(4)] + rng.sample(sorted(seen), 2):
                found[view in seen] += 1
                self.gives(view in seen, is_seen, nest, view)
                if view not in seen:
                    self.assertRaises(Unseen, first_end, nest, view)
                    self.assertRaises(Unseen, last_begin, nest, view)
                    continue
                right = plain.right_for(seen[view], len(life[1]))
                self.gives((right[0], right[-1]), right_span, nest, view)
                self.gives(first_end(nest, view), early_moments, life, tour, view)
                self.gives(last_begin(nest, view), late_moments, life, tour, view)
                self.assertIn(weak_stage(nest, view), right)
                self.gives((right[0] * 5 + 2, right[-1] * 5 + 2), off_span, nest, 2, view)
        self.assertGreater(min(found.values()), 30)

    def test_one_stage_alone(self):
        for nest in NESTS:
            for stage in range(nest_held(nest)):
                row = row_at(nest, stage)
                self.gives((stage, stage), right_span, nest, tuple(row[dial] for dial in nest_tour(nest)))

    def test_told_stages_do_not_fall(self):
        rng = random.Random(63)
        for nest in NESTS:
            life = life_by(nest, nest_held(nest))
            for _ in range(8):
                moments = sorted(rng.randrange(len(life[1])) for _ in range(2 * len(nest_tour(nest))))
                half = len(moments) // 2
                one, other = [view_of(life, nest_tour(nest), part)
                              for part in (tuple(moments[:half]), tuple(moments[half:]))]
                self.assertLessEqual(told_stage(nest, one), told_stage(nest, other))

    def test_lives(self):
        rng = random.Random(64)
        for life, tour in samples(life_and_tour, 80, seed=64):
            seen = plain.views_by_life(life, tour)
            view = rng.choice(sorted(seen))
            right = right_stages(machine_of(life), tour, view)
            span = life_span(life, tour, view)
            self.assertEqual(right, () if span is None else tuple(range(span[0], span[1] + 1)))
            lets_answer(life, tour, view, answer_paper(life, tour, view))
            other = tuple(rng.randrange(life[0][dial]) for dial in tour)
            if other not in seen:
                self.assertRaises(Unseen, answer_paper, life, tour, other)

    def test_readers(self):
        for nest in (((2,), (2,)), ((), (2, 3)), ((2, 2), ()), ((3,), (2,)), ((), (2, 2, 2))):
            self.gives("right", judged_reader, machine_of(life_by(nest, nest_held(nest))), nest_reader(nest))

    def test_weak_dials(self):
        nest = ((2, 2), ())
        self.gives(0, told_stage, nest, (0, 0, 1, 1))
        spans = plain.weak_views(life_by(nest, 4), nest_tour(nest))[0, 0, 1, 1]
        self.assertIn((1, 3), spans)
        self.assertTrue(all(first <= weak_stage(nest, (0, 0, 1, 1)) <= last for first, last in spans))


class Stage18(Promises):
    """[71]"""

    def test_codes(self):
        for net, dials, rows in CODES[::5]:
            if bare_block(net, dials, rows) is None:
                for stage, row in enumerate(rows):
                    self.gives(stage, handed_told, net, dials, rows, row)

    def test_holdings(self):
        for held in HELD:
            for stage in range(held[0][0]):
                for row in rows_at(*held, stage):
                    self.gives(gates_of(held[0], stage), told_gates, *held, row)
                    self.gives(stage, held_told, *held, row)
            if all(word == "dial" for word, _ in held[2]):
                self.well_made(*held[:2], code_rows(*held))

    def well_made(self, net, dials, rows):
        self.gives(True, is_trim, net, dials, rows)
        self.gives(None, bare_block, net, dials, rows)

    def test_tight_codes(self):
        rng = random.Random(71)
        for net, dials, dealing in ((plaindesk.RING, (3,), (0,)), (plaindesk.KITE, (2, 3), (1, 0)),
                                    (plaindesk.BOW, (3, 3), (1, 0)),
                                    (plaindesk.ROW, (2, 2), (1, 0)), (plaindesk.ROW, (3,), (0, 0))):
            for _ in range(8):
                names = tuple(tuple(rng.sample(range(size), size)) for size in dials)
                rows = tight_code(net, dials, dealing, names)
                self.well_made(net, dials, rows)
                self.gives((dealing, names), tight_parts, net, dials, rows)

    def test_beatings(self):
        rng = random.Random(72)
        for net, dials, rows in CODES[::7]:
            if bare_block(net, dials, rows) is not None:
                reader = random_reader(rng, dials, net[0] + 1)
                lets_beating(net, dials, rows, reader, beating(net, dials, rows, reader))
                self.assertNotEqual(judged_reader(machine_by(net, dials, rows), reader), "right")


class Stage21(Promises):
    """[82]"""

    def test_lines(self):
        for seed, nest in enumerate(NESTS[::3]):
            slices = tuple(plainruns.line_slices(8200 + seed, nest, 50).log)
            rows = line_run(nest, 3, slices)
            for (_, begin, end, _, stage), told in zip(rows, remembered(rows)):
                first, last = stood_between(nest, slices, begin, end)
                self.assertTrue(first <= stage <= last and first <= told <= last)
            self.assertLessEqual(fall_depth(rows), 1)
            for one, other in fallen_pairs(rows):
                between = {piece[0] for piece in slices[rows[one][2]:rows[other][1] + 1]}
                self.assertTrue(between <= {"look", "halt"})
                self.assertLess(*stood_between(nest, slices, rows[one][2], rows[other][1]))
            whole = whole_turns(slices)
            if whole:
                self.gives(None, line_reason, nest, 3, whole[:-1], whole[-1])
            self.assertEqual(fallen_pairs(line_run(nest, 3, whole)), ())
            self.alone([row for row in rows if row[0] == 1], line_run(nest, 3, alone(slices, 1)))

    def alone(self, rows, others):
        self.assertEqual([row[3:] for row in rows], [row[3:] for row in others])

    def test_nets(self):
        for seed, held in enumerate(HELD[::3]):
            run = plainruns.net_slices(8300 + seed, held, 50)
            slices = tuple(run.log)
            rows = undo_run(*held, run.orders, slices)
            for _, begin, end, _, stage in rows:
                self.assertIn(stage, stood_lot(*held, slices, begin, end))
            self.alone([row for row in rows if row[0] == 2], undo_run(*held, run.orders, alone(slices, 2)))


class Stage24(Promises):
    """[92]"""

    def test_texts_and_logs(self):
        for seed in range(8):
            rng = random.Random(9200 + seed)
            log, desk = plaindesk.random_log(rng, 30)
            self.gives(log, read_log, log_text(log))
            for event in log:
                self.gives(event, read_event, event_line(event))
            kept = Desk()
            kept.do_all(log)
            self.assertTrue(replayed(kept.log()) == kept)
            for _ in range(6):
                claim = plaindesk.random_claim(rng, desk, 4)
                self.gives(claim, read_claim, claim_line(claim))
                self.gives(desk.holds(claim), kept.holds, claim)

    def test_grown_and_hung(self):
        grown = hung = 0
        for seed in range(30):
            rng = random.Random(9300 + seed)
            log, _ = plaindesk.random_log(rng, 25)
            desk = Desk()
            for event in log:
                before = dict(desk.works())
                shown = {name: desk.row_now(name) for name in before}
                desk.put(event)
                if event[0] == "grow":
                    grown += 1
                    self.gives((0, *shown[event[1]]), desk.row_now, event[1])
                if event[0] == "hang":
                    hung += 1
                    self.hung_at(rng, desk, event[1], before[event[1]], event[2])
                for name in desk.names_now():
                    self.tells_now(desk, name)
        self.assertGreater(min(grown, hung), 15)

    def tells_now(self, desk, name):
        work = dict(desk.works())[name]
        row = desk.row_now(name)
        seen = tuple(row[dial] for dial in nest_tour(work[1])) if work[0] == "line" else row
        self.gives(desk.stage_now(name), desk.told, name, seen)
        if work[0] == "line":
            for times in range(work[3] + 1):
                if set(row[:times]) <= {0}:
                    self.gives(work[2], desk.old_told, name, times, seen[times:len(seen) - times])

    def hung_at(self, rng, desk, name, old, stage):
        """The old dials show what they showed, and tell the old gate wherever the work then goes."""
        _, net, dials, holding, row, _, _ = old
        self.gives(row + (0,) * (len(desk.row_now(name)) - len(row)), desk.row_now, name)
        tried = Desk()
        tried.do_all(desk.log())
        for _ in range(6):
            whole = dict(tried.works())[name][1]
            at = tried.stage_now(name)
            ahead = [near for near in range(whole[0]) if plainnets.tied(whole, at, near)]
            if ahead:
                tried.pass_to(name, rng.choice(ahead))
            shown = tried.row_now(name)[:len(dials)]
            self.gives(old_gate(net[0], stage, tried.stage_now(name)), held_told, net, dials, holding, shown)

    def test_a_watch_of_the_old_dials(self):
        for nest in NESTS[::5]:
            desk = Desk()
            desk.do_all((("line", "a", *nest), ("grow", "a", 2), ("grow", "a", 3)))
            rows = [row_at(nest, stage) for stage in range(nest_held(nest))]
            tour = nest_tour(nest)
            for moments in itertools.islice(itertools.combinations_with_replacement(range(len(rows)), len(tour)), 0,
                                            400, 9):
                view = tuple(rows[moment][dial] for dial, moment in zip(tour, moments))
                self.assertTrue(moments[0] <= desk.old_told("a", 2, view) <= moments[-1])


if __name__ == "__main__":
    unittest.main()
