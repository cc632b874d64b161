"""The interface: names, files, parameters, and methods that stand in their classes themselves."""

import inspect
import unittest
from importlib import import_module

# For each file its functions with their parameters, and its classes with those of their constructors and methods.
FUNCTIONS = {
    "forms": {"is_symbol": "value"},
    "systems": {"form_rank": "forms flat=()", "lightest_base": "forms costs flat=()", "combination": "form forms flat=()",
                "direction": "form forms flat=()", "solution": "flat", "contradiction": "flat"},
    "moduletexts": {"read_module": "text"},
    "checker": {"interface_of": "module", "first_fault": "module interfaces"},
    "programs": {"carried": "old new"},
    "formruns": {"symbol_of": "run position"},
    "translating": {"translate": "program procedure", "book_of": "program"},
    "coderuns": {"run_code": "program book procedure arguments cells=None *path=None", "parting": "trace other"},
    "passes": {name: "code" for name in ("spread", "fold", "share_equal", "drop_dead", "least_asked")},
    "loop_passes": {"hoist": "code"},
    "stretches": {"stretch_of": "code path=()"},
    "keeps": {"known": "stretch keeps stop", "missing": "stretch keeps"},
    "cuts": {"least_keeps": "stretch", "certificate": "stretch", "is_certificate": "stretch value"},
    "orders": {"named_pairs": "history", "keeps": "history order", "exchanged": "history run other", "difference": "history order"},
    "seals": {"sealed": "record", "whole_records": "text"},
    "payloads": {"payload_of": "record", "read_payload": "text"},
    "replacing": {"replaced_cells": "program module cells=None", "judge": "program module procedure arguments stop cells=None"},
    "archivetexts": {"archive_text": "archive", "read_archive": "text"},
    "inlining": {"inline": "code book", "optimized": "code *names *book=None", "optimized_book": "program *names"},
}
CONDITION = {"": "form", "holds_at": "point", "denied": "", "replaced": "forms"}
CLASSES = {
    ("amounts", "Amount"): {"": "top bottom=1", "over": "divisor", "below": "other"},
    ("forms", "Form"): {"": "constant=0 weights=None", "of": "constant=0 **weights", "symbol": "symbol", "symbols": "",
                        "weight": "symbol", "value_at": "point", "replaced": "forms", "over": "divisor"},
    ("conditions", "Condition"): CONDITION,
    ("conditions", "Zero"): CONDITION,
    ("conditions", "NonZero"): CONDITION,
    ("conditions", "Negative"): CONDITION,
    ("conditions", "NonPositive"): CONDITION,
    ("regions", "Region"): {"": "conditions=()", "conditions": "", "symbols": "", "joined": "*conditions", "is_possible": "",
                            "has_point": "value", "inner_point": "", "forced": "", "flat": "", "refutation": "",
                            "bound_certificate": "form", "two_points": "forms form"},
    ("modules", "Module"): {"": "name imports=() cells=() procedures=() carries=()", "imports": "", "cells": "", "procedures": "",
                            "carries": "", "cell_texts": ""},
    ("checker", "Fault"): {"": "kind procedure label"},
    ("programs", "Program"): {"": "*modules", "modules": "", "module_named": "name", "interfaces": "", "cells": "",
                              "procedure_at": "text", "importers": "name", "with_module": "module"},
    ("runs", "Run"): {"": "program procedure arguments cells=None", "traced": "program procedure arguments cells=None",
                      "variables": "", "trace": "", "path": "", "reads": "", "writes": "", "step": "", "finish": "", "walk": "",
                      "clone": ""},
    ("formruns", "FormRun"): {"": "program procedure arguments path cells=None",
                              "traced": "program procedure arguments path cells=None", "variables": "", "trace": "", "path": "",
                              "reads": "", "writes": "", "step": "", "finish": "", "walk": "", "clone": "", "conditions": ""},
    ("codes", "Code"): {"": "procedure parameters rows", "asked": "path", "form_over_leaves": "value", "renumbered": ""},
    ("stretches", "Stretch"): {"": "rows out=()", "all_values": "", "stops": "", "operands": "value", "asked": "stop", "live": "stop"},
    ("framing", "FramePlan"): {"": "stretch keeps", "least": "stretch", "held": "stop", "slot_of": "value stop",
                               "recipe": "value stop", "walk": "leaf compute", "tell": "stop contents compute"},
    ("ledgers", "Ledger"): {"": "lanes", "replayed": "lanes history", "begin": "lane", "newest": "cell", "history": "", "pairs": "run",
                            "spot_of": "run", "clone": ""},
    ("ledgers", "Attempt"): {"read": "cell", "write": "cell", "end": "", "drop": ""},
    ("disks", "Disk"): {"": "text=", "append": "text", "sync": "", "stopped": "length", "clone": ""},
    ("journals", "Journal"): {"": "lanes", "enter": "lane pairs payload", "entries": "lane", "disk": "lane", "counting": "", "durable": "",
                              "cut": "", "order": "", "sync": "*lanes", "stopped": "lengths", "recovered": "", "drop": "cut", "clone": ""},
    ("replacing", "Verdict"): {"held": "", "needed": "", "told_rows": "", "direction": ""},
    ("engine", "Engine"): {
        "": "program *lanes=2 *cells=None *passes=()", "restored": "program journal *cells=None *passes=()", "cells": "", "clone": "",
        "begin": "lane procedure arguments *weight=1", "step": "lane", "finish": "lane", "end": "lane", "drop": "lane",
        "execute": "lane procedure arguments *weight=1", "replace": "lane module", "is_busy": "lane", "run_of": "lane", "call_of": "lane",
        "attempt_of": "lane", "standing_of": "lane", "fate_of": "lane", "run_numbers": "", "record_of": "number", "lane_of": "number", "pairs": "number",
        "cells_at": "number", "program_at": "number", "sync": "lane", "durable": "", "release": "", "journal": "", "ledger": ""},
    ("archives", "Archive"): {
        "": "program cells=None", "let_go": "engine", "records": "", "cells": "", "kept": "", "costs": "", "symbols": "", "region": "", "cell_forms": "",
        "kept_forms": "", "point": "", "told_by": "form", "arguments_of": "run", "cells_before": "run", "program_before": "run", "trace_of": "run",
        "form_trace_of": "run", "histories": "index", "clone": ""},
    ("slots", "Slots"): {"": "first= second=", "texts": "", "save": "archive", "stopped": "archive length", "load": ""},
    ("debugger", "Debugger"): {
        "": "engine archive", "run_keys": "", "stops_of": "key", "at": "key stop", "told": "key stop frame name", "cursor": "", "go": "key stop",
        "forward": "", "back": "", "spots": "", "why_kept": "index", "why_pair": "number other", "lost_by": "procedure arguments"},
    ("console", "Console"): {"": "", "execute": "command", "run": "commands"},
}
PROPERTIES = {
    ("amounts", "Amount"): "top bottom sign",
    ("forms", "Form"): "constant_part is_constant linear_part",
    ("conditions", "Condition"): "form",
    ("runs", "Run"): "place is_over outcome stop_count",
    ("formruns", "FormRun"): "place is_over outcome stop_count",
    ("stretches", "Stretch"): "row_list out_list",
    ("framing", "FramePlan"): "slots",
    ("ledgers", "Ledger"): "lanes",
    ("ledgers", "Attempt"): "lane place is_over",
    ("disks", "Disk"): "content sure",
    ("replacing", "Verdict"): "word place what",
    ("engine", "Engine"): "program lanes released passes",
    ("archives", "Archive"): "cut_number program taken",
    ("console", "Console"): "debugger",
}
SPECIALS = {
    ("amounts", "Amount"): "add sub mul neg eq str repr",
    ("forms", "Form"): "add sub mul neg eq str repr",
    ("conditions", "Condition"): "eq str repr",
    ("modules", "Module"): "eq str repr",
    ("checker", "Fault"): "eq str",
    ("programs", "Program"): "eq len",
    ("codes", "Code"): "eq len repr",
    ("stretches", "Stretch"): "eq len",
    ("ledgers", "Ledger"): "eq len",
    ("disks", "Disk"): "eq",
    ("journals", "Journal"): "eq",
    ("engine", "Engine"): "eq len",
    ("archives", "Archive"): "eq len",
}


def shown(function):
    """The parameters of a function as they are written above."""
    words = []
    for name, parameter in inspect.signature(function).parameters.items():
        stars = {parameter.VAR_POSITIONAL: "*", parameter.VAR_KEYWORD: "**", parameter.KEYWORD_ONLY: "*"}.get(parameter.kind, "")
        default = "" if parameter.default is parameter.empty else f"={parameter.default}"
        words.append(f"{stars}{name}{default}")
    return " ".join(words)


def file_named(name):
    return import_module(f"leastlog.{name}")


class InterfaceTest(unittest.TestCase):
    def test_functions(self):
        for file, functions in FUNCTIONS.items():
            for name, parameters in functions.items():
                function = getattr(file_named(file), name)
                self.assertEqual(function.__module__, f"leastlog.{file}")
                self.assertEqual(shown(function), parameters, name)

    def test_classes(self):
        for (file, name), methods in CLASSES.items():
            found = getattr(file_named(file), name)
            self.assertEqual(found.__module__, f"leastlog.{file}")
            # Who makes objects of the others is their own affair.
            self.assertEqual(shown(found), methods.get("", shown(found)), name)
            for method, parameters in methods.items():
                if method:
                    self.assertIn(method, vars(found), name)
                    written = shown(getattr(found, method))
                    is_bound = isinstance(vars(found)[method], (classmethod, staticmethod))
                    self.assertEqual(written if is_bound else written.removeprefix("self").strip(), parameters)

    def test_properties(self):
        for (file, name), listed in PROPERTIES.items():
            for word in listed.split():
                self.assertIsInstance(vars(getattr(file_named(file), name))[word], property)

    def test_special_methods(self):
        for (file, name), listed in SPECIALS.items():
            for word in listed.split():
                self.assertIn(f"__{word}__", vars(getattr(file_named(file), name)))


if __name__ == "__main__":
    unittest.main()
