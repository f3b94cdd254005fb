"""The interface as the document lists it: files, names, parameters, and methods in their classes."""

import ast
import importlib
import inspect
import os
import unittest

import stoodthen

# The lines of the interface, as far as it has landed.
FUNCTIONS = {
    "kinds": "is_integer(thing), is_number(thing), is_dials(thing), is_row(dials, thing), is_tour(dials, thing),"
             " is_view(dials, tour, thing)",
    "rowtools": "rows_many(dials), row_number(dials, row), row_by(dials, number), all_rows(dials),"
                " unlike_dials(dials, row, other), renamed_row(dials, row, names)",
    "lifechecker": "lets_life(thing)",
    "lives": "life_of(dials, rows), stages_many(life), stage_at(life, moment), is_lean(life), first_moments(life),"
             " turns_of(life, dial)",
    "lifechanges": "turned_back(life), renamed_life(life, names), reordered_life(life, order), cut_life(life, many),"
                   " kept_life(life, times)",
    "machinechecker": "lets_machine(thing)",
    "machines": "machine_of(life), stages_of(machine), spots_with(machine, stage), goes_to(machine, spot),"
                " is_undo(machine), is_walk(machine, thing), machine_by(net, dials, rows),"
                " turning_by(net, dials, rows), stepping_back(dials, rows, steps), weakened(machine)",
    "netchecker": "lets_net(thing)",
    "nets": "net_of(size, *ties), neighbours_of(net, stage), is_tied(net, here, there), way_of(net, here, there),"
            " line_net(size), ring_net(size), star_net(size), hung_on(net, stage, other)",
    "readerchecker": "lets_reader(dials, thing)",
    "readerruns": "shown(dials, reader, row), told_stages(dials, reader), tour_of(dials, reader, row)",
    "lifetexts": "life_line(life), read_life(text)",
    "nettexts": "net_line(net), read_net(text), reader_line(dials, reader), read_reader(text)",
    "views": "view_of(life, tour, moments), watch_view(machine, tour, walk, moments), stages_met(machine, walk)",
    "watchchecker": "lets_watch(machine, tour, thing)",
    "seenviews": "views_of(machine, tour), can_see(machine, tour, view), watch_with(machine, tour, view)",
    "rightstages": "right_stages(machine, tour, view), is_safe(machine, tour), first_torn(machine, tour),"
                   " answer_table(machine, tour), avoiding_watch(machine, tour, view, stage)",
    "avoidpapers": "avoid_paper(machine, tour), lets_avoiding(machine, tour, thing)",
    "twolooks": "two_looks(life, tour), lets_two_looks(life, tour, thing)",
    "strongparts": "strong_parts(machine), parts_without(machine, stage), carries(machine, part, row)",
    "readables": "row_answers(machine, row), fooling_row(machine), is_readable(machine), enough_sweeps(machine),"
                 " sweep_tour(dials, many)",
    "foolpapers": "fool_paper(machine), lets_fooling(machine, thing)",
    "readerjudges": "judged_reader(machine, reader), wrong_watch(machine, reader), lets_wrong(machine, reader, thing)",
    "gaps": "gap_dials(dials, tour, gap), gap_products(dials, tour, gap), gap_bound(dials, tour, gap),"
            " tour_bound(dials, tour), tight_gap(dials, tour), nested_form(dials, tour)",
    "cutpapers": "kept_moments(life, tour, gap), cut_marks(life, tour, gap), clash_at(life, tour, gap),"
                 " lets_cut(life, tour, gap, thing)",
    "leastcuts": "cuts_of(sizes), least_cut(sizes), cut_gap(sizes)",
    "orders": "middle_of(sizes), best_cut(sizes), best_order(sizes)",
    "looknumbers": "most_held(dials, looks), best_tour(dials, looks), fewest_looks(dials, stages),"
                   " looks_for_all(dials), to_and_fro(dials)",
    "bitnumbers": "bits_held(many, looks), bits_for(stages, further)",
    "nestkinds": "is_nest(thing), nest_dials(nest), nest_tour(nest), nest_held(nest), nest_by(dials, outer, inner),"
                 " placed_row(dials, outer, inner, row)",
    "offbounds": "off_bound(dials, tour, off), off_held(dials, looks, off), off_line(dials, off),"
                 " off_least(dials, looks, stages)",
    "toandfro": "counted_row(sizes, count), count_by(sizes, row), turned_place(sizes, count),"
                " place_turns(sizes, place)",
    "showncounts": "next_count(sizes, place, value, count), last_count(sizes, place, value, count)",
    "meshes": "halves_of(inner), right_comes(inner, right), rights_ahead(inner, left), counts_at(inner, stage),"
              " left_begins(inner, left), right_begins(inner, right)",
    "cores": "core_row(inner, stage), core_stage(inner, row)",
    "nestrows": "row_at(nest, stage), stage_by(nest, row), shift_of(nest)",
    "nestturns": "turn_at(nest, stage), nest_turns(nest, dial), off_row(nest, off, stage)",
    "nestlives": "life_by(nest, many)",
    "returns": "return_of(life), return_watches(life, dial, here, there)",
    "longest": "is_longest(life), due_turns(dials), is_due(life)",
    "pairlives": "pair_many(one, other), pair_life(firsts, seconds, word), pair_parts(life), pair_lives(one, other)",
    "shows": "next_show(nest, dial, value, stage), last_show(nest, dial, value, stage)",
    "viewspans": "first_end(nest, view), last_begin(nest, view)",
    "toldanswers": "is_seen(nest, view), right_span(nest, view), told_stage(nest, view)",
    "lifespans": "early_moments(life, tour, view), late_moments(life, tour, view), life_span(life, tour, view)",
    "answerpapers": "answer_paper(life, tour, view), lets_answer(life, tour, view, thing)",
    "weaktold": "weak_stage(nest, view), weak_first(nest, view)",
    "offtold": "off_span(nest, off, view), off_stage(nest, off, view)",
    "treereaders": "reader_by(dials, tour, table), nest_reader(nest), seen_table(nest)",
    "blocks": "blocks_of(net), block_ties(net, block), blocks_at(net, stage), hinges_of(net)",
    "gates": "gate_of(net, block, stage), behind(net, block, gate), gates_of(net, stage)",
    "regions": "regions_of(net, places), region_of(net, places, stage)",
    "holdkinds": "is_holding(net, dials, thing), lets_holding(net, dials, thing)",
    "dealings": "dealing_of(net, dials), deals_many(net, dials), mixed_of(net, dials)",
    "handed": "parts_block(net, dials, rows, dial, block), parting_dials(net, dials, rows),"
              " bare_block(net, dials, rows), bare_row(net, dials, rows), is_trim(net, dials, rows),"
              " handed_told(net, dials, rows, row)",
    "heldrows": "code_rows(net, dials, holding), rows_each(net, dials, holding), rows_at(net, dials, holding, stage),"
                " passed_row(net, dials, holding, row, here, there)",
    "heldmachines": "held_machine(net, dials, holding)",
    "sinks": "sinks_of(net, gates), sink_of(net, gates), told_gates(net, dials, holding, row),"
             " held_told(net, dials, holding, row)",
    "tights": "tight_many(net, dials), tight_code(net, dials, dealing, names), tight_parts(net, dials, rows)",
    "beatings": "beating(net, dials, rows, reader), lets_beating(net, dials, rows, reader, thing)",
    "slicekinds": "is_slice(thing), is_pass(thing), is_slices(thing)",
    "weakruns": "line_reason(nest, many, slices, piece), dial_shows(nest, slices, dial, shade)",
    "lineruns": "line_run(nest, many, slices), standing(nest, slices), stood_between(nest, slices, begin, end)",
    "falls": "fallen_pairs(rows), fall_depth(rows), remembered(rows)",
    "undoruns": "undo_reason(net, dials, holding, many, slices, piece), undo_run(net, dials, holding, orders, slices),"
                " stood_lot(net, dials, holding, slices, begin, end)",
    "runpapers": "stood_paper(nest, many, slices), lets_stood(nest, many, slices, thing)",
    "runchanges": "alone(slices, who), whole_turns(slices)",
    "runtexts": "slice_line(piece), slices_text(slices), read_slices(text)",
    "growing": "grown_nest(nest, size), old_view(nest, times, view), old_gate(size, at, stage),"
               " hung_holding(net, dials, holding, stage, other, more, held)",
    "deskevents": "is_name(thing), is_event(thing), is_log(thing)",
    "reasons": "is_works(thing), reason_of(works, event)",
    "stepping": "stepped(works, event)",
    "deskclaims": "is_claim(thing), claim_holds(works, claim), claim_line(claim), read_claim(text)",
    "replaying": "replayed(log), cut_log(log, many), day_report(log)",
    "desktexts": "event_line(event), read_event(text), log_text(log), read_log(text), works_line(works)",
}
CLASSES = {
    "Life(dials, spots)": ("lifeclasses", "lean(), stages(), stage(moment), back(), cut(many), told()"),
    "Looks(machine, tour)": ("lookclasses", "views(), right(view), safe(), torn(), table(), met(walk)"),
    "Cut(dials, tour)": ("cutclasses", "gaps(), bound(gap), least(), tight(), nested(), marks(life, gap)"),
    "Code(outer, inner)": (
        "codeclasses", "held(), row(stage), stage(row), turn(stage), shift(), turns(dial), life(many), grown(size)"),
    "Teller(outer, inner)": (
        "tellclasses", "told(view), span(view), seen(view), weak(view), near(off, view), reader()"),
    "Undo(net, dials, holding)": (
        "undoclasses", "rows(stage), passed(row, here, there), told(row), spare(), machine(),"
                       " hung(stage, other, more, held)"),
    "LineRun(outer, inner, many)": (
        "runclasses", "go(), begin(), end(), look(who, shade), halt(who), log(), rows(), stands()"),
    "UndoRun(net, dials, holding, orders)": (
        "runclasses", "go(stage), begin(stage), end(), look(who, shade), halt(who), log(), rows(), stands()"),
    "DeskAsks(works)": (
        "deskasks", "works(), names_now(), row_now(name), stage_now(name), held_now(name), told(name, seen),"
                    " old_told(name, times, view), holds(claim)"),
    "Desk()": (
        "desk", "put(event), open_line(name, outer, inner), open_net(name, net, dials, holding), go(name, many),"
                " pass_to(name, stage), grow(name, size), hang(name, stage, other, more, held), drop(name), day(),"
                " barred(event), do_all(events, keep=False), undo(steps=1), tried(events), log()"),
}
# Methods of Python's own that the document asks for; a DeskAsks is equal to itself alone.
OWN_METHODS = {"Life": ("__eq__", "__len__"), "DeskAsks": ()}


def parts(text):
    """The pairs of a name and its list of parameters."""
    found = []
    for part in text.replace("), ", ")|").split("|"):
        name, _, rest = part.partition("(")
        found.append((name, [word for word in rest.rstrip(")").split(", ") if word]))
    return found


def parameters(function):
    return [str(parameter) for parameter in inspect.signature(function).parameters.values()]


def listed():
    """The pairs of a file and what is listed for it."""
    return [*FUNCTIONS.items(), *[(file, head) for head, (file, _) in CLASSES.items()]]


class Interface(unittest.TestCase):

    def test_functions(self):
        for file, text in FUNCTIONS.items():
            module = importlib.import_module("stoodthen." + file)
            for name, expected in parts(text):
                function = getattr(module, name)
                self.assertEqual(function.__module__, "stoodthen." + file)
                self.assertEqual(parameters(function), expected, name)

    def test_classes(self):
        for head, (file, methods) in CLASSES.items():
            module = importlib.import_module("stoodthen." + file)
            (name, expected), = parts(head)
            thing = getattr(module, name)
            self.assertEqual(thing.__module__, "stoodthen." + file)
            self.assertEqual(parameters(thing), expected)
            for method, names in parts(methods):
                self.assertIn(method, vars(thing))
                self.assertEqual(parameters(vars(thing)[method]), ["self", *names])
            for method in OWN_METHODS.get(name, ("__eq__",)):
                self.assertIn(method, vars(thing))

    def test_all_is_defined_in_its_file(self):
        folder = os.path.dirname(stoodthen.__file__)
        for file, text in listed():
            with open(os.path.join(folder, file + ".py"), encoding="utf-8") as source:
                tree = ast.parse(source.read())
            defined = [node.name for node in tree.body if isinstance(node, (ast.FunctionDef, ast.ClassDef))]
            for name, _ in parts(text):
                self.assertEqual(defined.count(name), 1, name)


if __name__ == "__main__":
    unittest.main()
