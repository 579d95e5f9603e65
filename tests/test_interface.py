"""The interface: names, arguments, and the files that define them."""

import ast
import importlib
import inspect
import pathlib
import unittest

FOLDER = pathlib.Path(__file__).resolve().parent.parent / "rerunrein"

# For each file its functions, and its classes with their methods.
FUNCTIONS = {
    "expressions": {
        "parse_expression": "(text)", "parse_condition": "(text)", "written": "(node)",
        "evaluate": "(node, values)", "holds": "(node, values)",
    },
    "programs": {"parse_program": "(lines)"},
    "machine": {"run": "(program, inputs, choices)"},
    "records": {
        "record_lines": "(record)", "read_record": "(lines)", "first_departure": "(program, inputs, record)",
    },
    "orders": {
        "under_way": "(record, cut)", "count_cuts": "(order, *, most=20000)", "count_replays": "(order, *, most=20000)",
        "any_replay": "(order)",
    },
    "logs": {
        "needed_takes": "(record)", "other_sender": "(record, event)",
        "rerun": "(program, inputs, record, log, choices)",
    },
    "checkpoints": {
        "recovery_line": "(record, cut, failed)", "useless_checkpoints": "(record)", "zigzag": "(record, event)",
        "is_zigzag": "(record, event, thing)",
    },
    "steering": {
        "required": "(conditions)", "steer": "(conditions)", "bad_cut": "(conditions, waits)",
        "good_replay": "(conditions)", "is_steering": "(conditions, thing)", "is_evidence": "(conditions, thing)",
    },
    "replays": {"replay": "(record, waits, choices)"},
    "scripts": {"steered_lines": "(record, waits=())"},
    "errors": {},
}
CLASSES = {
    "expressions": {},
    "programs": {"Program": {"names": "(self)", "body": "(self, name)", "lines": "(self)"}},
    "machine": {
        "Machine": {
            "__init__": "(self, program, inputs)", "status": "(self, name)", "ready": "(self)", "senders": "(self, name)",
            "step": "(self, name, *, sender=None)", "variables": "(self, name)", "channel": "(self, sender, receiver)",
            "record": "(self)", "copy": "(self)",
        },
    },
    "records": {
        "Record": {
            "__init__": "(self, rows)", "names": "(self)", "events": "(self, name)", "length": "(self, name)",
            "variables": "(self, name)", "state": "(self, name, number)", "partner": "(self, event)",
        },
    },
    "orders": {
        "Order": {
            "__init__": "(self, record, waits=())", "ahead": "(self, one, other)", "is_cut": "(self, cut)",
            "least_cut": "(self, events)", "waits": "(self)",
        },
    },
    "conditions": {
        "Conditions": {
            "__init__": "(self, record, lines)", "record": "(self)", "lines": "(self)", "sections": "(self, name)",
            "gaps": "(self, name)", "broken": "(self, cut)",
        },
    },
    "replays": {
        "Replay": {
            "__init__": "(self, record, waits=())", "reached": "(self)", "ready": "(self)", "step": "(self, name)",
            "copy": "(self)",
        },
    },
    "console": {"Console": {"__init__": "(self)", "tell": "(self, line)"}},
    "errors": {
        "RerunError": {},
        "BadText": {"__init__": "(self, position)"},
        "Fault": {"__init__": "(self, reason)"},
        "BadProgram": {"__init__": "(self, line, reason)"},
        "UnknownProcess": {"__init__": "(self, name)"},
        "BadInputs": {"__init__": "(self, index)"},
        "NotReady": {"__init__": "(self, name)"},
        "BadSender": {"__init__": "(self, sender)"},
        "BadRecord": {"__init__": "(self, reason, name, number)"},
        "BadEvent": {"__init__": "(self, event)"},
        "BadRecordLine": {"__init__": "(self, line)"},
        "BadLine": {"__init__": "(self, line)"},
        "BadWait": {"__init__": "(self, index)"},
        "NotLive": {"__init__": "(self, ring)"},
        "TooMany": {"__init__": "(self, most)"},
        "BadCut": {"__init__": "(self, cut)"},
        "BadConditions": {"__init__": "(self, line, reason)"},
        "Missing": {"__init__": "(self, what)"},
    },
}


def definitions(body):
    """The names that def and class statements of this body define, with the statements."""
    return {part.name: part for part in body if isinstance(part, (ast.FunctionDef, ast.ClassDef))}


class InterfaceTest(unittest.TestCase):

    def test_functions(self):
        for name, functions in FUNCTIONS.items():
            module = importlib.import_module(f"rerunrein.{name}")
            defined = definitions(ast.parse((FOLDER / f"{name}.py").read_text()).body)
            for function, signature in functions.items():
                with self.subTest(function):
                    self.assertIsInstance(defined.get(function), ast.FunctionDef)
                    self.assertEqual(str(inspect.signature(getattr(module, function))), signature)

    def test_classes_and_their_methods(self):
        for name, classes in CLASSES.items():
            module = importlib.import_module(f"rerunrein.{name}")
            defined = definitions(ast.parse((FOLDER / f"{name}.py").read_text()).body)
            for kind, methods in classes.items():
                self.assertIsInstance(defined.get(kind), ast.ClassDef)
                inside = definitions(defined[kind].body)
                for method, signature in methods.items():
                    with self.subTest(kind, method=method):
                        self.assertIn(method, inside)
                        self.assertEqual(str(inspect.signature(getattr(getattr(module, kind), method))), signature)


if __name__ == "__main__":
    unittest.main()
