"""The names, arguments and places of the interface."""

import importlib
import inspect
import unittest

FUNCTIONS = {
    "tokens": ["is_word(thing)", "is_number(thing)", "is_pair(thing)", "is_item(thing)", "sort_of(thing)",
               "tokens(text)", "text_of(file)"],
    "reader": ["states(language, file)", "read(language, file)", "spans(language, file)", "roles(language, file)"],
    "writer": ["writable(language, thing)", "plain(language, entries)", "shortest(language, entries)"],
    "slips": ["trimmed(first, second)"],
    "pairs": ["common_ends(language)"],
    "shapes": ["filled(shape, filling)", "placed(language, shape, filling, ahead, behind)",
               "instance(language, shape, file, slip)"],
    "reach": ["reach(language, rule)"],
    "kinds": ["is_value(thing)"],
    "schema": ["met(schema, name, seen, value, *, entry=0)"],
    "checking": ["checked(schema, entries)", "complaints(schema, entries)", "entries_left(schema, entries)"],
    "layers": ["over(schema, name, below, seen)", "gives(schema, name, seen)",
               "finished(schema, name, below, top_seen)", "seen_at(checks, layer, name)",
               "below_top(schema, checks, name)", "outcome(schema, checks, name)", "joined(schema, checks)",
               "changed_names(schema, checks, others)"],
    "lifts": ["lift_above(schema, checks, layer, name)"],
}

CLASSES = {
    "language.Language": [
        "__init__(self, *, equals='must', end='must', comma='must', last='never', doubled=(), bare=False, "
        "nothing=False)", "with_options(self, **more)", "step(self, state, sort)", "closes(self, state)",
        "begins(self, state)", "next_sorts(self, state)", "__eq__(self, other)"],
    "slips.Slip": ["__init__(self, kind, at, token=None)", "__call__(self, file)", "fits(self, file)",
                   "__eq__(self, other)"],
    "rules.SlipRule": ["__init__(self, *kinds, looks=())", "every()", "__or__(self, other)", "__and__(self, other)",
                       "__sub__(self, other)", "within(self, other)", "__eq__(self, other)", "__contains__(self, x)",
                       "__len__(self)", "allows(self, file, slip)", "slips(self, file, *, words=(), numbers=())"],
    "shapes.Shape": [],
    "shapes.Window": [],
    "reach.Reach": ["find(self, file, slip)"],
    "kinds.Setting": [
        "__init__(self, name, kind, *, words=(), default=None, elders=(), join=False, demand='no', filled=False)",
        "fits(self, value)", "calls(self, word)", "changed(self, **more)", "__eq__(self, other)"],
    "schema.Schema": [
        "__init__(self, settings, *, unknown='refuse', doubled='refuse', wrong='refuse', nothing='clears', "
        "empty='given')", "__iter__(self)", "__len__(self)", "__eq__(self, other)", "called(self, word)",
        "setting(self, name)", "fits(self, name, value)", "with_setting(self, setting)", "with_rules(self, **more)"],
    "checking.Checked": ["__len__(self)", "__eq__(self, other)", "given(self, name)", "sources(self, name)",
                         "entries_of(self, name)", "with_value(self, entry, value)", "without(self, entry)"],
    "runs.Run": ["over_values(cls, schema, name, values)", "__call__(self, seen)", "__add__(self, other)",
                 "__eq__(self, other)"],
    "lifts.Lift": ["of_seen(cls, schema, name, seen)", "__call__(self, below)", "__add__(self, other)",
                   "__eq__(self, other)"],
}


def told(function):
    plain = getattr(function, "__func__", function)
    return f"{plain.__name__}{inspect.signature(plain)}"


class Interface(unittest.TestCase):
    def test_functions(self):
        for name, rows in FUNCTIONS.items():
            module = importlib.import_module(f"slipreach.{name}")
            for row in rows:
                function = getattr(module, row.partition("(")[0])
                self.assertEqual((function.__module__, told(function)), (f"slipreach.{name}", row))

    def test_classes(self):
        for place, rows in CLASSES.items():
            name, _, word = place.partition(".")
            kind = getattr(importlib.import_module(f"slipreach.{name}"), word)
            self.assertEqual((kind.__module__, kind.__bases__), (f"slipreach.{name}", (object,)))
            for row in rows:
                self.assertEqual(told(vars(kind)[row.partition("(")[0]]), row)

    def test_special_methods(self):
        kinds = {"rules.SlipRule.every": staticmethod, "runs.Run.over_values": classmethod,
                 "lifts.Lift.of_seen": classmethod, "checking.Checked.worths": property}
        for place, kind in kinds.items():
            name, word, method = place.split(".")
            owner = getattr(importlib.import_module(f"slipreach.{name}"), word)
            self.assertIsInstance(vars(owner)[method], kind)


if __name__ == "__main__":
    unittest.main()
