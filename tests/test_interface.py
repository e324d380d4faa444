"""The interface of DOC.md: names and where they are defined."""

import importlib
import inspect
import unittest

FUNCTIONS = {
    "ordinals": {
        "is_ordinal": 1, "compare": 2, "degree": 1, "power": 2, "add": 2, "multiply": 2, "subtract": 2, "divide": 2,
        "format_ordinal": 1, "parse_ordinal": 1,
    },
    "syntax": {
        "parse_program": 1, "parse_expression": 2, "names_of": 1, "evaluate": 2, "format_expression": 1, "format_program": 1,
    },
    "machine": {"start_state": 1, "all_states": 1, "is_halted": 2, "successor": 2, "limit_state": 2},
}


class InterfaceTest(unittest.TestCase):
    def test_each_function_is_defined_in_its_file(self):
        for file, functions in FUNCTIONS.items():
            module = importlib.import_module(f"limitrun.{file}")
            for name, arguments in functions.items():
                with self.subTest(file=file, name=name):
                    function = getattr(module, name)
                    self.assertTrue(inspect.isfunction(function))
                    self.assertEqual(function.__module__, f"limitrun.{file}")
                    self.assertEqual(function.__code__.co_argcount, arguments)


if __name__ == "__main__":
    unittest.main()
