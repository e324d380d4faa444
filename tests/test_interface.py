"""The interface of DOC.md: names and where they are defined."""

import importlib
import inspect
import unittest

FUNCTIONS = {
    "ordinals": {
        "is_ordinal": 1, "compare": 2, "degree": 1, "power": 2, "add": 2, "multiply": 2, "subtract": 2, "divide": 2,
        "format_ordinal": 1, "parse_ordinal": 1,
    },
    "syntax": {
        "parse_program": 1, "parse_expression": 2, "names_of": 1, "evaluate": 2, "format_expression": 1, "format_program": 1,
    },
    "machine": {"start_state": 1, "all_states": 1, "is_halted": 2, "successor": 2, "limit_state": 2},
    "certificates": {"certify_state": 3, "check_claims": 2, "check_certificate": 2, "certify_halting": 2, "check_halting": 2},
    "traces": {"trace_of": 3, "build_trace": 4, "is_trace": 1, "value_at": 2, "drop": 2, "first_difference": 2},
    "operations": {"constant": 1, "map_values": 2, "combine": 3, "concat": 3, "repeat": 2, "sample": 2, "hold": 2},
    "events": {"next_event": 3, "count_events": 3, "total_events": 2, "nth_event": 3, "select": 3},
    "compare": {"run_difference": 3, "state_classes": 2, "with_rule": 3, "rule_effects": 2},
}
# The arguments of the class, and of its methods without the object itself.
CLASSES = {
    ("tower", "Tower"): (1, {"height": 0, "jump": 2, "visited": 2, "state_after": 3, "state_at": 2, "halting_time": 1}),
    ("session", "Session"): (1, {
        "time": 0, "state": 0, "program": 0, "run_to": 1, "advance": 1, "state_at": 1, "set_value": 2, "replace_program": 1, "history": 0, "next_time": 1,
        "count_times": 2, "halting_time": 0, "add_breakpoint": 1, "remove_breakpoint": 1, "continue_run": 0, "mark": 0, "back": 1,
    }),
    ("console", "Console"): (0, {"execute": 1}),
}


class InterfaceTest(unittest.TestCase):
    def test_each_function_is_defined_in_its_file(self):
        for file, functions in FUNCTIONS.items():
            module = importlib.import_module(f"limitrun.{file}")
            for name, arguments in functions.items():
                with self.subTest(file=file, name=name):
                    function = getattr(module, name)
                    self.assertTrue(inspect.isfunction(function))
                    self.assertEqual(function.__module__, f"limitrun.{file}")
                    self.assertEqual(function.__code__.co_argcount, arguments)

    def test_each_class_has_its_methods_in_its_own_body(self):
        for (file, name), (arguments, methods) in CLASSES.items():
            with self.subTest(file=file, name=name):
                own = getattr(importlib.import_module(f"limitrun.{file}"), name)
                self.assertTrue(inspect.isclass(own))
                self.assertEqual(own.__module__, f"limitrun.{file}")
                self.assertEqual(own.__init__.__code__.co_argcount, arguments + 1)
                for method, many in methods.items():
                    self.assertTrue(inspect.isfunction(vars(own)[method]), method)
                    self.assertEqual(vars(own)[method].__code__.co_argcount, many + 1, method)


if __name__ == "__main__":
    unittest.main()
