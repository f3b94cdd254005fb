"""[12]: which parameter is refused first, and that the first one of a kind is handed in as such."""

import itertools
import unittest

from stoodthen import (
    answerpapers, avoidpapers, beatings, bitnumbers, blocks, codeclasses, cores, cutclasses, cutpapers, dealings,
    desk, deskasks, deskclaims, desktexts, falls, gaps, gates, growing, handed, heldmachines, heldrows, holdkinds,
    kinds, lifechanges, lifeclasses, lifespans, lifetexts, lineruns, lives, lookclasses, looknumbers, machines,
    meshes, nestkinds, nestlives, nestrows, nestturns, nets, nettexts, offbounds, offtold, pairlives, readables,
    readerjudges, readerruns, reasons, regions, replaying, returns, rightstages, rowtools, runchanges, runclasses,
    runpapers, runtexts, seenviews, showncounts, shows, sinks, stepping, strongparts, tellclasses, tights,
    toandfro, toldanswers, treereaders, twolooks, undoclasses, undoruns, views, viewspans, watchchecker, weakruns,
    weaktold)
from tests.samples import BOTH, KITE, MB, NEST, ODD, RING, ROW, Promises

DIALS = (2, 2)
READER = (("look", 0, (1, 2)), ("tell", 0), ("tell", 3))
ROWS = ((0, 0), (0, 1), (1, 1))
HOLDING = (("dial", 0), ("dial", 0))
# Parameters that may be any values: they are not refused.
FREE = ("thing", "piece", "event")
# Functions that refuse a parameter of such a name all the same.
ASKED = {runtexts.slice_line: "piece", desktexts.event_line: "event"}
PASSES = (("pass", 1), ("begin", 2))
FALL = ((1, 1, 1, (1,), 1), (0, 2, 2, (0,), 0))
WORKS = (("ab", ("line", NEST, 1, 1)),)

# Each function with good arguments; those in the dict may be any values.
CALLS = [
    (kinds.is_view, (DIALS,), {"tour": (0,), "thing": (0,)}),
    (rowtools.row_number, (DIALS,), {"row": (0, 1)}),
    (rowtools.row_by, (DIALS,), {"number": 3}),
    (rowtools.unlike_dials, (DIALS,), {"row": (0, 1), "other": (1, 1)}),
    (rowtools.renamed_row, (DIALS,), {"row": (0, 1), "names": ((1, 0), (0, 1))}),
    (lives.life_of, (DIALS,), {"rows": ROWS}),
    (lives.stage_at, (BOTH,), {"moment": 2}),
    (lives.turns_of, (BOTH,), {"dial": 1}),
    (lifechanges.renamed_life, (BOTH,), {"names": ((1, 0), (0, 1))}),
    (lifechanges.reordered_life, (BOTH,), {"order": (1, 0)}),
    (lifechanges.cut_life, (BOTH,), {"many": 2}),
    (lifechanges.kept_life, (BOTH,), {"times": 2}),
    (machines.spots_with, (MB,), {"stage": 2}),
    (machines.goes_to, (MB,), {"spot": 2}),
    (machines.is_walk, (MB,), {"thing": (0, 1)}),
    (machines.machine_by, (ROW,), {"dials": DIALS, "rows": ROWS}),
    (machines.turning_by, (ROW,), {"dials": DIALS, "rows": ROWS}),
    (machines.stepping_back, (DIALS,), {"rows": ROWS, "steps": 1}),
    (nets.net_of, (), {"size": 1}),
    (nets.neighbours_of, (RING,), {"stage": 2}),
    (nets.is_tied, (RING,), {"here": 2, "there": 1}),
    (nets.way_of, (RING,), {"here": 2, "there": 1}),
    (nets.line_net, (), {"size": 12}),
    (nets.ring_net, (), {"size": 3}),
    (nets.star_net, (), {"size": 2}),
    (nets.hung_on, (RING,), {"stage": 2, "other": ROW}),
    (readerruns.shown, (DIALS,), {"reader": READER, "row": (0, 1)}),
    (readerruns.told_stages, (DIALS,), {"reader": READER}),
    (readerruns.tour_of, (DIALS,), {"reader": READER, "row": (0, 1)}),
    (lifetexts.read_life, (), {"text": "2; 0 0"}),
    (nettexts.read_net, (), {"text": "1"}),
    (nettexts.reader_line, (DIALS,), {"reader": READER}),
    (nettexts.read_reader, (), {"text": "2; tell 0"}),
    (lifeclasses.Life, (), {"dials": DIALS, "spots": BOTH[1]}),
    (lifeclasses.Life(*BOTH).stage, (), {"moment": 2}),
    (lifeclasses.Life(*BOTH).cut, (), {"many": 2}),
    (views.view_of, (BOTH,), {"tour": (0, 1), "moments": (0, 3)}),
    (views.watch_view, (MB,), {"tour": (0, 1), "walk": (2, 3), "moments": (0, 1)}),
    (views.stages_met, (MB,), {"walk": (2, 3)}),
    (seenviews.views_of, (MB,), {"tour": (0, 1)}),
    (seenviews.can_see, (MB,), {"tour": (0, 1), "view": (0, 1)}),
    (seenviews.watch_with, (MB,), {"tour": (0, 1), "view": (0, 1)}),
    (rightstages.right_stages, (MB,), {"tour": (0, 1), "view": (0, 1)}),
    (rightstages.is_safe, (MB,), {"tour": (0, 1)}),
    (rightstages.first_torn, (MB,), {"tour": (0, 1)}),
    (rightstages.answer_table, (MB,), {"tour": (0, 1, 0)}),
    (rightstages.avoiding_watch, (MB,), {"tour": (0, 1), "view": (0, 1), "stage": 2}),
    (avoidpapers.avoid_paper, (MB,), {"tour": (0, 1)}),
    (twolooks.two_looks, (BOTH,), {"tour": (0, 1)}),
    (strongparts.parts_without, (MB,), {"stage": 2}),
    (strongparts.carries, (MB,), {"part": (0, 2), "row": (0, 1)}),
    (readables.row_answers, (MB,), {"row": (0, 1)}),
    (readables.sweep_tour, (DIALS,), {"many": 2}),
    (readerjudges.judged_reader, (MB,), {"reader": READER}),
    (readerjudges.wrong_watch, (MB,), {"reader": READER}),
    (lookclasses.Looks, (), {"machine": MB, "tour": (0, 1)}),
    (lookclasses.Looks(MB, (0, 1)).right, (), {"view": (0, 1)}),
    (lookclasses.Looks(MB, (0, 1)).met, (), {"walk": (2, 3)}),
    (gaps.gap_dials, (DIALS,), {"tour": (0, 1), "gap": 1}),
    (gaps.gap_products, (DIALS,), {"tour": (0, 1), "gap": 1}),
    (gaps.gap_bound, (DIALS,), {"tour": (0, 1), "gap": 1}),
    (gaps.tour_bound, (DIALS,), {"tour": (0, 1)}),
    (gaps.tight_gap, (DIALS,), {"tour": (0, 1)}),
    (gaps.nested_form, (DIALS,), {"tour": (0, 1)}),
    (cutpapers.kept_moments, (BOTH,), {"tour": (0, 1), "gap": 1}),
    (cutpapers.cut_marks, (BOTH,), {"tour": (0, 1), "gap": 1}),
    (cutpapers.clash_at, (BOTH,), {"tour": (0, 1), "gap": 1}),
    (looknumbers.most_held, (DIALS,), {"looks": 2}),
    (looknumbers.best_tour, (DIALS,), {"looks": 2}),
    (looknumbers.fewest_looks, (DIALS,), {"stages": 3}),
    (bitnumbers.bits_held, (3,), {"looks": 2}),
    (bitnumbers.bits_for, (), {"stages": 5, "further": 1}),
    (nestkinds.nest_by, (DIALS,), {"outer": (1,), "inner": (0,)}),
    (nestkinds.placed_row, (DIALS,), {"outer": (1,), "inner": (0,), "row": (0, 1)}),
    (offbounds.off_bound, (DIALS,), {"tour": (0, 1), "off": 1}),
    (offbounds.off_held, (DIALS,), {"looks": 2, "off": 1}),
    (offbounds.off_line, (DIALS,), {"off": 1}),
    (offbounds.off_least, (DIALS,), {"looks": 2, "stages": 5}),
    (cutclasses.Cut, (), {"dials": DIALS, "tour": (0, 1)}),
    (cutclasses.Cut(DIALS, (0, 1)).bound, (), {"gap": 1}),
    (cutclasses.Cut(DIALS, (0, 1)).marks, (), {"life": BOTH, "gap": 1}),
    (toandfro.counted_row, ((2, 3),), {"count": 4}),
    (toandfro.count_by, ((2, 3),), {"row": (1, 1)}),
    (toandfro.turned_place, ((2, 3),), {"count": 3}),
    (toandfro.place_turns, ((2, 3),), {"place": 1}),
    (showncounts.next_count, ((2, 3),), {"place": 1, "value": 0, "count": 1}),
    (showncounts.last_count, ((2, 3),), {"place": 1, "value": 2, "count": 5}),
    (meshes.right_comes, (DIALS,), {"right": 1}),
    (meshes.rights_ahead, (DIALS,), {"left": 1}),
    (meshes.counts_at, (DIALS,), {"stage": 1}),
    (meshes.left_begins, (DIALS,), {"left": 1}),
    (meshes.right_begins, (DIALS,), {"right": 1}),
    (cores.core_row, (DIALS,), {"stage": 1}),
    (cores.core_stage, (DIALS,), {"row": (1, 1)}),
    (nestrows.row_at, (NEST,), {"stage": 1}),
    (nestrows.stage_by, (NEST,), {"row": (1, 1)}),
    (nestturns.turn_at, (NEST,), {"stage": 1}),
    (nestturns.nest_turns, (NEST,), {"dial": 1}),
    (nestturns.off_row, (NEST,), {"off": 1, "stage": 11}),
    (nestlives.life_by, (NEST,), {"many": 4}),
    (returns.return_watches, (BOTH,), {"dial": 1, "here": 0, "there": 3}),
    (pairlives.pair_many, (), {"one": 2, "other": 3}),
    (pairlives.pair_life, (), {"firsts": (1, 0), "seconds": (0, 1), "word": (1, 0)}),
    (codeclasses.Code, (), {"outer": (2,), "inner": (2,)}),
    (codeclasses.Code(*NEST).row, (), {"stage": 1}),
    (codeclasses.Code(*NEST).stage, (), {"row": (1, 1)}),
    (codeclasses.Code(*NEST).turn, (), {"stage": 1}),
    (codeclasses.Code(*NEST).turns, (), {"dial": 1}),
    (codeclasses.Code(*NEST).life, (), {"many": 4}),
    (codeclasses.Code(*NEST).grown, (), {"size": 2}),
    (shows.next_show, (NEST,), {"dial": 1, "value": 0, "stage": 1}),
    (shows.last_show, (NEST,), {"dial": 1, "value": 0, "stage": 1}),
    (viewspans.first_end, (NEST,), {"view": (0, 1, 1)}),
    (viewspans.last_begin, (NEST,), {"view": (0, 1, 1)}),
    (toldanswers.is_seen, (NEST,), {"view": (0, 1, 1)}),
    (toldanswers.right_span, (NEST,), {"view": (0, 1, 1)}),
    (toldanswers.told_stage, (NEST,), {"view": (0, 1, 1)}),
    (lifespans.early_moments, (BOTH,), {"tour": (0, 1), "view": (0, 1)}),
    (lifespans.late_moments, (BOTH,), {"tour": (0, 1), "view": (0, 1)}),
    (lifespans.life_span, (BOTH,), {"tour": (0, 1), "view": (0, 1)}),
    (answerpapers.answer_paper, (BOTH,), {"tour": (0, 1), "view": (0, 1)}),
    (weaktold.weak_stage, (NEST,), {"view": (0, 1, 1)}),
    (weaktold.weak_first, (NEST,), {"view": (0, 1, 1)}),
    (offtold.off_span, (NEST,), {"off": 1, "view": (0, 1, 1)}),
    (offtold.off_stage, (NEST,), {"off": 1, "view": (0, 1, 1)}),
    (treereaders.reader_by, (DIALS,), {"tour": (0, 1), "table": (((1, 0), 4),)}),
    (tellclasses.Teller, (), {"outer": (2,), "inner": (2,)}),
    (tellclasses.Teller(*NEST).told, (), {"view": (0, 1, 1)}),
    (tellclasses.Teller(*NEST).span, (), {"view": (0, 1, 1)}),
    (tellclasses.Teller(*NEST).seen, (), {"view": (0, 1, 1)}),
    (tellclasses.Teller(*NEST).weak, (), {"view": (0, 1, 1)}),
    (tellclasses.Teller(*NEST).near, (), {"off": 1, "view": (0, 1, 1)}),
    (blocks.block_ties, (KITE,), {"block": 1}),
    (blocks.blocks_at, (KITE,), {"stage": 2}),
    (gates.gate_of, (KITE,), {"block": 1, "stage": 0}),
    (gates.behind, (KITE,), {"block": 1, "gate": 2}),
    (gates.gates_of, (KITE,), {"stage": 3}),
    (regions.regions_of, (KITE,), {"places": (1,)}),
    (regions.region_of, (KITE,), {"places": (0,), "stage": 3}),
    (holdkinds.is_holding, (KITE,), {"dials": (4,), "thing": HOLDING}),
    (dealings.dealing_of, (KITE,), {"dials": (3, 2)}),
    (dealings.deals_many, (KITE,), {"dials": (3, 2)}),
    (dealings.mixed_of, (KITE,), {"dials": (3, 2)}),
    (handed.parts_block, (ROW,), {"dials": DIALS, "rows": ROWS, "dial": 1, "block": 0}),
    (handed.parting_dials, (ROW,), {"dials": DIALS, "rows": ROWS}),
    (handed.bare_block, (ROW,), {"dials": DIALS, "rows": ROWS}),
    (handed.bare_row, (ROW,), {"dials": DIALS, "rows": ROWS}),
    (handed.is_trim, (ROW,), {"dials": DIALS, "rows": ROWS}),
    (handed.handed_told, (ROW,), {"dials": DIALS, "rows": ROWS, "row": (1, 0)}),
    (heldrows.code_rows, (KITE,), {"dials": (4,), "holding": HOLDING}),
    (heldrows.rows_each, (KITE,), {"dials": (4,), "holding": HOLDING}),
    (heldrows.rows_at, (KITE,), {"dials": (4,), "holding": HOLDING, "stage": 3}),
    (heldrows.passed_row, (KITE,), {"dials": (4,), "holding": HOLDING, "row": (2,), "here": 2, "there": 3}),
    (heldmachines.held_machine, (KITE,), {"dials": (4,), "holding": HOLDING}),
    (sinks.sinks_of, (KITE,), {"gates": (1, 2)}),
    (sinks.sink_of, (KITE,), {"gates": (1, 2)}),
    (sinks.told_gates, (KITE,), {"dials": (4,), "holding": HOLDING, "row": (3,)}),
    (sinks.held_told, (KITE,), {"dials": (4,), "holding": HOLDING, "row": (3,)}),
    (tights.tight_many, (ROW,), {"dials": DIALS}),
    (tights.tight_code, (ROW,), {"dials": DIALS, "dealing": (1, 0), "names": ((1, 0), (0, 1))}),
    (tights.tight_parts, (ROW,), {"dials": DIALS, "rows": ROWS}),
    (beatings.beating, (RING,), {"dials": DIALS, "rows": ROWS, "reader": READER}),
    (undoclasses.Undo, (), {"net": KITE, "dials": (4,), "holding": HOLDING}),
    (undoclasses.Undo(KITE, (4,), HOLDING).rows, (), {"stage": 3}),
    (undoclasses.Undo(KITE, (4,), HOLDING).passed, (), {"row": (2,), "here": 2, "there": 3}),
    (undoclasses.Undo(KITE, (4,), HOLDING).told, (), {"row": (3,)}),
    (undoclasses.Undo(KITE, (4,), HOLDING).hung, (), {"stage": 3, "other": RING, "more": (3,), "held": (("dial", 0),)}),
    (weakruns.line_reason, (NEST,), {"many": 2, "slices": (("go",),), "piece": None}),
    (weakruns.dial_shows, (NEST,), {"slices": (("go",),), "dial": 1, "shade": "old"}),
    (lineruns.standing, (NEST,), {"slices": (("go",),)}),
    (lineruns.stood_between, (NEST,), {"slices": (("go",),), "begin": 0, "end": 0}),
    (falls.fallen_pairs, (), {"rows": FALL}),
    (falls.fall_depth, (), {"rows": FALL}),
    (falls.remembered, (), {"rows": FALL}),
    (undoruns.undo_reason, (ROW,), {"dials": (3,), "holding": HOLDING, "many": 1, "slices": PASSES, "piece": None}),
    (undoruns.stood_lot, (ROW,), {"dials": (3,), "holding": HOLDING, "slices": PASSES, "begin": 0, "end": 0}),
    (runpapers.stood_paper, (NEST,), {"many": 1, "slices": (("go",),)}),
    (runchanges.alone, (), {"slices": PASSES, "who": 0}),
    (runchanges.whole_turns, (), {"slices": PASSES}),
    (runtexts.slice_line, (), {"piece": ("go",)}),
    (runtexts.slices_text, (), {"slices": PASSES}),
    (runtexts.read_slices, (), {"text": "go"}),
    (runclasses.LineRun, (), {"outer": (2,), "inner": (2,), "many": 1}),
    (runclasses.UndoRun, (), {"net": ROW, "dials": (3,), "holding": HOLDING, "orders": ((0,),)}),
    (growing.grown_nest, (NEST,), {"size": 3}),
    (growing.old_view, (NEST,), {"times": 1, "view": (0, 1, 1)}),
    (growing.old_gate, (), {"size": 3, "at": 2, "stage": 4}),
    (growing.hung_holding, (ROW,), {"dials": (3,), "holding": HOLDING, "stage": 1, "other": RING, "more": (3,),
                                    "held": (("dial", 0),)}),
    (reasons.reason_of, (), {"works": WORKS, "event": None}),
    (stepping.stepped, (), {"works": WORKS, "event": ("day",)}),
    (deskclaims.claim_holds, (), {"works": WORKS, "claim": ("at", "ab", 0)}),
    (deskclaims.claim_line, (), {"claim": ("at", "ab", 0)}),
    (deskclaims.read_claim, (), {"text": "at ab 0"}),
    (deskasks.DeskAsks(WORKS).row_now, (), {"name": "ab"}),
    (deskasks.DeskAsks(WORKS).stage_now, (), {"name": "ab"}),
    (deskasks.DeskAsks(WORKS).held_now, (), {"name": "ab"}),
    (deskasks.DeskAsks(WORKS).told, (), {"name": "ab", "seen": (0, 1, 1)}),
    (deskasks.DeskAsks(WORKS).old_told, (), {"name": "ab", "times": 1, "view": (1,)}),
    (deskasks.DeskAsks(WORKS).holds, (), {"claim": ("at", "ab", 0)}),
    (replaying.replayed, (), {"log": (("day",),)}),
    (replaying.cut_log, (), {"log": (("day",),), "many": 1}),
    (replaying.day_report, (), {"log": (("day",),)}),
    (desktexts.event_line, (), {"event": ("day",)}),
    (desktexts.read_event, (), {"text": "day"}),
    (desktexts.log_text, (), {"log": (("day",),)}),
    (desktexts.read_log, (), {"text": "day"}),
    (desktexts.works_line, (), {"works": WORKS}),
]
# Checkers: their thing is refused by InvalidPaper, the parameters ahead of it by NotUsable.
CHECKERS = [
    (watchchecker.lets_watch, (MB,), {"tour": (0, 1)}, ((1, 2, 3), (0, 2))),
    (avoidpapers.lets_avoiding, (MB,), {"tour": ()}, ((), (((1,), ()), ((0,), ()), ((3,), ()), ((2,), ())))),
    (twolooks.lets_two_looks, (BOTH,), {"tour": (0, 1)}, ((0, 0), (1, 3))),
    (readerjudges.lets_wrong, (MB,), {"reader": READER}, ((1,), (0,))),
    (cutpapers.lets_cut, (BOTH,), {"tour": (0, 1, 0), "gap": 1}, ("first", "gone", "first", "gone")),
    (answerpapers.lets_answer, (BOTH,), {"tour": (0, 1), "view": (0, 1)}, ((0, 1), (1, 2))),
    (holdkinds.lets_holding, (KITE,), {"dials": (4,)}, HOLDING),
    (beatings.lets_beating, (RING,), {"dials": DIALS, "rows": ROWS, "reader": READER}, ("told", (1,), (0,))),
    (runpapers.lets_stood, (((), (3,)),), {"many": 1, "slices": (("look", 0, "old"),)}, (0,)),
]
# Values of no kind that any of these parameters asks for.
NEVER = (None, True, False, -1, -(10 ** 69), [], [()], [0], (None,), ((),), (True,), ([0],), (-1,), [[[[[]]]]])


def refused(function, others):
    """The names of the parameters that are refused."""
    return [name for name in others if name not in FREE or ASKED.get(function) == name]


class Parameters(Promises):

    def test_good_arguments_are_not_refused(self):
        for function, first, others in CALLS:
            by_place = function(*first, *others.values())
            by_name = function(*first, **others)
            self.assertEqual(by_place, by_name)
        for function, first, others, paper in CHECKERS:
            function(*first, *others.values(), paper)
            function(*first, **others, thing=paper)

    def test_each_parameter(self):
        for function, first, others in CALLS:
            for name in refused(function, others):
                for wrong in NEVER:
                    self.refuses(name, function, *first, *{**others, name: wrong}.values())

    def test_the_first_wrong_one_is_told(self):
        for function, first, others in CALLS:
            names = refused(function, others)
            for many in range(2, len(names) + 1):
                for wrong in itertools.combinations(names, many):
                    values = {**others, **dict.fromkeys(wrong, None)}
                    self.refuses(wrong[0], function, *first, *values.values())

    def test_checkers(self):
        for function, first, others, paper in CHECKERS:
            for name, wrong in itertools.product(others, NEVER):
                values = {**others, name: wrong}
                self.refuses(name, function, *first, *values.values(), paper)
                self.refuses(name, function, *first, *values.values(), None)
            self.refuses(list(others)[0], function, *first, *[None for _ in others], None)
            for thing in ODD:
                if not (isinstance(thing, tuple) and len(thing) in (2, 4, len(paper))):
                    self.rejects("shape", -1, function, *first, *others.values(), thing)

    def test_by_name(self):
        self.assertEqual(lifechanges.kept_life(times=2, life=BOTH)[1][1], ((0, 0), 1))
        self.assertEqual(nets.hung_on(other=ROW, stage=1, net=ROW)[0], 5)
        self.assertEqual(gaps.gap_bound(gap=1, tour=(0, 1), dials=(2, 2)), 3)
        self.assertEqual(rightstages.is_safe(machine=MB, tour=(0, 1, 0)), True)
        self.assertEqual(lineruns.line_run(slices=(("look", 0, "old"),), many=1, nest=((), (3,))),
                         ((0, 0, 0, (0,), 0),))
        self.assertEqual(gates.behind(gate=2, block=0, net=KITE), (2, 3))
        self.assertEqual(undoruns.undo_run(slices=PASSES, orders=((0,),), holding=HOLDING, dials=(3,), net=ROW), ())
        self.assertEqual(deskasks.DeskAsks(works=WORKS).told(seen=(0, 1, 1), name="ab"), 1)

    def test_desk_by_name(self):
        held = {"net": RING, "dials": (3,), "holding": (("dial", 0),)}
        kept = desk.Desk()
        kept.put(event=("day",))
        kept.open_line(inner=(2,), outer=(2,), name="ab")
        kept.open_net(name="cd", **held)
        kept.go(many=1, name="ab")
        kept.pass_to(stage=2, name="cd")
        kept.grow(size=2, name="ab")
        kept.hang(held=(("dial", 0),), more=(3,), other=RING, stage=1, name="cd")
        kept.drop(name="ab")
        self.assertIsNone(kept.barred(event=("day",)))
        kept.do_all(keep=True, events=(("day",),))
        self.assertEqual(kept.tried(events=()), kept.works())
        self.assertEqual(kept.log(), (
            ("day",), ("line", "ab", (2,), (2,)), ("net", "cd", *held.values()), ("go", "ab", 1), ("pass", "cd", 2),
            ("grow", "ab", 2),
            ("hang", "cd", 1, RING, (3,), (("dial", 0),)), ("drop", "ab"), ("day",)))
        kept.undo(steps=9)
        self.assertEqual(kept.log(), ())

    def test_runs_by_name(self):
        run = runclasses.LineRun(many=1, inner=(3,), outer=())
        self.assertEqual(run.look(shade="old", who=0), 0)
        run.halt(who=0)
        run = runclasses.UndoRun(orders=((0,),), holding=HOLDING, dials=(3,), net=ROW)
        run.go(stage=1)
        run.begin(stage=2)
        self.assertEqual(run.look(shade="new", who=0), 2)
        run.halt(who=0)
        self.assertEqual(run.log(), (("pass", 1), ("begin", 2), ("look", 0, "new"), ("halt", 0)))

    def test_results_are_the_same_each_time(self):
        for function, first, others in CALLS:
            self.assertEqual(function(*first, *others.values()), function(*first, *others.values()))


if __name__ == "__main__":
    unittest.main()
