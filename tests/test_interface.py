"""The names, arguments and places of the interface."""

import importlib
import inspect
import unittest

FUNCTIONS = {
    "tokens": ["is_word(thing)", "is_number(thing)", "is_pair(thing)", "is_item(thing)", "sort_of(thing)",
               "tokens(text)", "text_of(file)"],
    "reader": ["states(language, file)", "read(language, file)", "spans(language, file)", "roles(language, file)"],
    "writer": ["writable(language, thing)", "plain(language, entries)", "shortest(language, entries)"],
    "slips": ["trimmed(first, second)"],
    "pairs": ["common_ends(language)"],
    "shapes": ["filled(shape, filling)", "placed(language, shape, filling, ahead, behind)",
               "instance(language, shape, file, slip)"],
    "reach": ["reach(language, rule)"],
    "kinds": ["is_value(thing)"],
    "schema": ["met(schema, name, seen, value, *, entry=0)"],
    "checking": ["checked(schema, entries)", "complaints(schema, entries)", "entries_left(schema, entries)"],
    "layers": ["over(schema, name, below, seen)", "gives(schema, name, seen)",
               "finished(schema, name, below, top_seen)", "seen_at(checks, layer, name)",
               "below_top(schema, checks, name)", "outcome(schema, checks, name)", "joined(schema, checks)",
               "changed_names(schema, checks, others)"],
    "lifts": ["lift_above(schema, checks, layer, name)"],
    "whys": ["why(schema, checks, name)", "trail(schema, checks, name)", "telling_value(schema, checks, layer, entry)",
             "carriers(schema, checks, name)"],
    "changes": ["is_masked(schema, checks, layer, name)", "least_entries(schema, checks, layer, name, wanted)"],
    "editions": ["reused(edition)"],
    "leadover": ["lead(language, edition, files)"],
    "paths": ["parting_files(language, layers, first, second)", "blurred_files(language, layers, path)",
              "still_fault(language, layers, edition)"],
    "rowkinds": ["fresh_words(words, count)", "kind_rows(table, words, numbers, *, pairs=False)",
                 "same_kind(table, words, numbers, one, other, *, pairs=False)",
                 "value_spots(table, row, words, numbers)"],
    "steps": ["written_words(builder)", "written_numbers(builder)"],
    "conducts": ["conduct(builder, row, name, items)", "closure(builder, row, name, spots, *, most=60)"],
    "sliplists": ["items_of(parts, words, head, tail)",
                  "list_pairs(builder, row, name, spots, before, after, *, unlike=(), fixed=None)"],
    "conditions": ["parting(first, second)"],
    "deeds": ["attempt(store, deeds, *, most=None)", "preview_count(store, deeds, *, most=None)",
              "attempted(store, step, *, most=None, tried=False)"],
    "house": ["stage(error)", "weight(house, files)"],
    "playing": ["parted(first, second)", "played(house, files, layer, slip)",
                "fate_beside(house, files, layer, slip, row)", "place_of(house, files, layer, slip)"],
    "beside": ["told_words(house, rule)", "told_numbers(house, rule)"],
    "standings": ["start()", "steps(beside, name, layer, before, after, standing)",
                  "table(beside, name, layer, before, after)", "table_fault(beside, name, layer, before, after, rows)"],
    "finals": ["finals(beside, name, layer, before, after)"],
    "fates": ["fates(house, rule)"],
    "examples": ["example_fault(house, rule, place, fate, example)"],
    "leastsets": ["subsets(things)", "least_good(things, good)", "good_sets(things, good)", "spoiled(things, good)",
                  "turns(things, good)", "least_covers(sets)"],
    "oldfiles": ["replay(house, other, files)", "lost(house, other, olds)", "kept_fault(house, other, olds)"],
    "previews": ["silent_slips(house, rule, files, *, words=(), numbers=(), goal='any')",
                 "least_previews(house, rule, files, *, words=(), numbers=(), goal='any')"],
    "guards": ["fits(house, guard)", "guarded(house, guards)", "is_strict(house, guards)"],
    "pairing": ["shown(first, second, files)"],
    "alike": ["alike(first, second)", "parting_fault(first, second, parting)"],
    "console": ["holding(console, step)"],
    "pages": ["read_page(lines)", "page_of(table)"],
}

CLASSES = {
    "language.Language": [
        "__init__(self, *, equals='must', end='must', comma='must', last='never', doubled=(), bare=False, "
        "nothing=False)", "with_options(self, **more)", "step(self, state, sort)", "closes(self, state)",
        "begins(self, state)", "next_sorts(self, state)", "__eq__(self, other)"],
    "slips.Slip": ["__init__(self, kind, at, token=None)", "__call__(self, file)", "fits(self, file)",
                   "__eq__(self, other)"],
    "rules.SlipRule": ["__init__(self, *kinds, looks=())", "every()", "__or__(self, other)", "__and__(self, other)",
                       "__sub__(self, other)", "within(self, other)", "__eq__(self, other)", "__contains__(self, x)",
                       "__len__(self)", "allows(self, file, slip)", "slips(self, file, *, words=(), numbers=())"],
    "shapes.Shape": [],
    "shapes.Window": [],
    "reach.Reach": ["find(self, file, slip)"],
    "kinds.Setting": [
        "__init__(self, name, kind, *, words=(), default=None, elders=(), join=False, demand='no', filled=False)",
        "fits(self, value)", "calls(self, word)", "changed(self, **more)", "__eq__(self, other)"],
    "schema.Schema": [
        "__init__(self, settings, *, unknown='refuse', doubled='refuse', wrong='refuse', nothing='clears', "
        "empty='given')", "__iter__(self)", "__len__(self)", "__eq__(self, other)", "called(self, word)",
        "setting(self, name)", "fits(self, name, value)", "with_setting(self, setting)", "with_rules(self, **more)"],
    "checking.Checked": ["__len__(self)", "__eq__(self, other)", "given(self, name)", "sources(self, name)",
                         "entries_of(self, name)", "with_value(self, entry, value)", "without(self, entry)"],
    "runs.Run": ["over_values(cls, schema, name, values)", "__call__(self, seen)", "__add__(self, other)",
                 "__eq__(self, other)"],
    "lifts.Lift": ["of_seen(cls, schema, name, seen)", "__call__(self, below)", "__add__(self, other)",
                   "__eq__(self, other)"],
    "moves.Move": [],
    "moves.Rename": ["__init__(self, old, new, *, kept=True)", "applied(self, schema)", "__eq__(self, other)"],
    "moves.Drop": ["__init__(self, name)", "applied(self, schema)", "__eq__(self, other)"],
    "moves.Add": ["__init__(self, setting)", "applied(self, schema)", "__eq__(self, other)"],
    "moves.Preset": ["__init__(self, name, default)", "applied(self, schema)", "__eq__(self, other)"],
    "moves.Wrap": ["__init__(self, name)", "applied(self, schema)", "__eq__(self, other)"],
    "moves.Split": ["__init__(self, name, other)", "applied(self, schema)", "__eq__(self, other)"],
    "editions.Edition": ["__init__(self, elder, moves)", "direct(cls, elder, later)", "__rshift__(self, other)",
                         "source(self, name)", "is_wrapped(self, name)", "targets(self, name)", "moved(self, settings)",
                         "__eq__(self, other)"],
    "leadover.Lead": [],
    "paths.Path": ["__init__(self, editions)", "__iter__(self)", "__len__(self)", "__getitem__(self, at)",
                   "moved(self, settings)", "led(self, language, files)", "__rshift__(self, other)"],
    "rowkinds.Table": ["__init__(self, words=(), numbers=())", "__contains__(self, x)", "__eq__(self, other)"],
    "conduct.Conduct": ["meets(self, column)", "result(self, number, start)", "__add__(self, other)",
                        "__eq__(self, other)"],
    "steps.BuilderText": ["__init__(self, text, table, kinds)", "__eq__(self, other)", "outcome(self, row, values)",
                          "lines_run(self, values)"],
    "sliplists.ListPair": [],
    "conditions.Condition": ["every(cls, table)", "none(cls, table)", "test(cls, table, column, sign, wanted)",
                             "value(self, row)", "takes(self, row)", "__contains__(self, x)", "__bool__(self)",
                             "__eq__(self, other)", "__and__(self, other)", "__rand__(self, other)",
                             "__iand__(self, other)", "__or__(self, other)", "__ror__(self, other)",
                             "__ior__(self, other)", "__invert__(self)", "tested_words(self)", "tested_numbers(self)"],
    "builder.Builder": ["__init__(self, text, table, kinds)", "__call__(self, settings)"],
    "deeds.Deed": ["__init__(self, condition)", "takes(self, row)", "becomes(self, row)"],
    "deeds.Delete": ["__init__(self, condition)", "becomes(self, row)"],
    "deeds.Change": ["__init__(self, condition, changes)", "becomes(self, row)"],
    "deeds.Store": ["__init__(self, table, rows)", "__len__(self)", "listed(self)", "__contains__(self, x)",
                    "counted(self, condition)", "do(self, deed, *, most=None)"],
    "deeds.Trial": ["__init__(self, store, most=None, *, tried=False)", "__enter__(self)",
                    "__exit__(self, kind, value, trace)", "do(self, deed)"],
    "house.House": ["__init__(self, language, schema, builder, *, layers=1)", "run(self, files)"],
    "house.Plan": ["__getitem__(self, at)", "__contains__(self, x)"],
    "playing.Played": [],
    "beside.Beside": ["__init__(self, house, rule, row)", "plain_value(self, name, value)", "letters(self, name)"],
    "fates.Fates": ["places(self)", "of(self, place)", "example(self, place, fate)", "silent(self, goal)", "page(self)"],
    "fates.Example": ["__init__(self, files, layer, slip, row)"],
    "oldfiles.Replay": [],
    "previews.Preview": ["__init__(self, house, *names)", "__iter__(self)", "__len__(self)", "__contains__(self, x)",
                         "__eq__(self, other)", "__or__(self, other)", "__call__(self, plan)",
                         "changed(self, first, second)", "unseen(self, slips)"],
    "previews.SilentSlip": [],
    "papers.Study": ["__init__(self, house, rule, pool, *, olds=(), goal='any')", "paper(self, guards)",
                     "is_good(self, guards)", "least_sets(self)", "good_sets(self)", "spoiled(self)", "turns(self)"],
    "papers.Paper": [],
    "pairing.Pair": ["__init__(self, first, second)", "groups(self)"],
    "pairing.Group": ["__contains__(self, x)"],
    "pairing.Parting": ["__init__(self, difference, files, row, weight)"],
    "joints.Joint": ["__init__(self, pair, group, row)", "letters(self)", "start(self)",
                     "entered(self, standing, entry)", "raised(self, standing)", "standings(self)",
                     "fault(self, rows)"],
    "alike.Likeness": ["parting(self, difference)"],
    "matrix.Matrix": ["__init__(self, houses)", "relation(self, name, other)", "likeness(self, name, other)",
                      "classes(self)", "leads(self)", "broken(self, names)", "all_keeping(self)", "page(self)"],
    "console.Console": ["__init__(self, house, rows, *, changes=None)", "__len__(self)", "__getitem__(self, at)",
                        "__setitem__(self, at, worth)", "put(self, layer, file)", "show(self)", "listed(self)",
                        "planned(self)", "do(self, *, most=None)", "undo(self)", "redo(self)", "history(self)",
                        "try_file(self, layer, file)", "try_slip(self, layer, slip)"],
    "console.Holding": ["__init__(self, console)", "__enter__(self)", "__exit__(self, kind, value, trace)"],
}

BASES = {"moves.Rename": "Move", "moves.Drop": "Move", "moves.Add": "Move", "moves.Preset": "Move",
         "moves.Wrap": "Move",
         "moves.Split": "Move", "builder.Builder": "BuilderText", "deeds.Delete": "Deed", "deeds.Change": "Deed"}


def told(function):
    plain = getattr(function, "__func__", function)
    return f"{plain.__name__}{inspect.signature(plain)}"


class Interface(unittest.TestCase):
    def test_functions(self):
        for name, rows in FUNCTIONS.items():
            module = importlib.import_module(f"slipreach.{name}")
            for row in rows:
                function = getattr(module, row.partition("(")[0])
                self.assertEqual((function.__module__, told(function)), (f"slipreach.{name}", row))

    def test_classes(self):
        for place, rows in CLASSES.items():
            name, _, word = place.partition(".")
            kind = getattr(importlib.import_module(f"slipreach.{name}"), word)
            self.assertEqual(kind.__module__, f"slipreach.{name}")
            self.assertEqual([base.__name__ for base in kind.__bases__], [BASES.get(place, "object")])
            for row in rows:
                self.assertEqual(told(vars(kind)[row.partition("(")[0]]), row)

    def test_special_methods(self):
        kinds = {"rules.SlipRule.every": staticmethod, "runs.Run.over_values": classmethod,
                 "lifts.Lift.of_seen": classmethod, "checking.Checked.worths": property,
                 "editions.Edition.direct": classmethod, "paths.Path.whole": property,
                 "conditions.Condition.every": classmethod, "conditions.Condition.none": classmethod,
                 "conditions.Condition.test": classmethod, "conditions.Condition.blank": property,
                 "house.Plan.settings": property, "alike.Likeness.keeps": property}
        for place, kind in kinds.items():
            name, word, method = place.split(".")
            owner = getattr(importlib.import_module(f"slipreach.{name}"), word)
            self.assertIsInstance(vars(owner)[method], kind)

    def test_constants(self):
        for place, wanted in {
                "playing.FATES": ("reader", "schema", "joining", "builder", "same", "more", "less"),
                "pairing.DIFFERENCES": ("first", "second", "more", "less")}.items():
            name, _, word = place.partition(".")
            self.assertEqual(getattr(importlib.import_module(f"slipreach.{name}"), word), wanted)

    def test_generators(self):
        subsets = importlib.import_module("slipreach.leastsets").subsets
        self.assertTrue(inspect.isgeneratorfunction(subsets))


if __name__ == "__main__":
    unittest.main()
