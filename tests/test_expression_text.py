"""Point 10: the canonical texts of expressions."""

import itertools
import re
import unittest

from limitrun.errors import SyntaxProblem
from limitrun.syntax import format_expression, parse_expression

NAMES = ["x", "y", "z"]
X, Y, Z, ONE = ("name", "x"), ("name", "y"), ("name", "z"), ("int", 1)
PAIRS = ("or", "and", "=", "!=", "<", "<=", ">", ">=", "+", "-", "*", "mod")


def parse(text):
    return parse_expression(text, NAMES)


def parse_or_none(text):
    try:
        return parse(text)
    except SyntaxProblem:
        return None


def simple_forms():
    """One form of each kind, with operands that are as simple as can be."""
    forms = [X, ONE, ("not", X), ("neg", X), ("if", X, Y, Z), ("min", X, Y), ("max", X, Y)]
    return forms + [(sign, X, Y) for sign in PAIRS]


def forms_over(parts):
    """All forms of every kind with these operands."""
    for first in parts:
        yield ("not", first)
        yield ("neg", first)
        for second in parts:
            for sign in PAIRS + ("min", "max"):
                yield (sign, first, second)
            yield ("if", first, second, first)
            yield ("if", second, first, first)


def parentheses_of(text):
    """The places of the parentheses that are no part of a call."""
    opened, found = [], []
    for at, character in enumerate(text):
        if character == "(":
            opened.append(at)
        elif character == ")":
            start = opened.pop()
            if not re.search("(min|max)$", text[:start]):
                found.append((start, at))
    return found


class FormatTest(unittest.TestCase):
    def check(self, cases):
        for text, canonical in cases:
            with self.subTest(text=text):
                self.assertEqual(format_expression(parse(text)), canonical)
                self.assertEqual(parse(canonical), parse(text))

    def test_example(self):
        form = ("-", X, ("-", ONE, ("*", ("int", 2), ("neg", X))))
        self.assertEqual(format_expression(form), "x - (1 - 2 * -x)")

    def test_spaces(self):
        self.check([
            ("x+1", "x + 1"), ("  x  ", "x"), ("( x )", "x"), ("x-1", "x - 1"), ("x - -1", "x - -1"), ("x--1", "x - -1"), ("- x", "-x"),
            ("- - x", "--x"), ("x---y", "x - --y"), ("- ( x + y )", "-(x + y)"), ("min( x ,y )", "min(x, y)"), ("max (x,-y)", "max(x, -y)"),
            ("min((x),(y))", "min(x, y)"), ("x*(y+1)", "x * (y + 1)"), ("x<=y", "x <= y"), ("x!=-1", "x != -1"), ("x mod y", "x mod y"),
            ("not  x", "not x"), ("not(x or y)", "not (x or y)"), ("not not(x)", "not not x"), ("not -(x)", "not -x"),
            ("if(x)then(y)else(z)", "if x then y else z"), ("if x<1 then-y else-(y+z)", "if x < 1 then -y else -(y + z)"),
            ("(x)and(y)or(z)", "x and y or z"), ("-min(x,y)", "-min(x, y)"), ("999999", "999999"), ("0", "0"), ("-0", "-0"),
        ])

    def test_parentheses_that_stay(self):
        for text in ("x - (y - z)", "x - (y + z)", "x + (y + z)", "x * (y * z)", "x mod (y * z)", "(x + y) * z", "x * (y - z)", "-(x * y)",
                     "-(x + y)", "(x < y) < z", "x < (y < z)", "(x = y) != z", "(not x) = y", "x = (not y)", "x + (not y)", "-(not x)",
                     "x and (y and z)", "x or (y or z)", "(x or y) and z", "x and (y or z)", "not (x and y)", "not (x or y)", "(x and y) = z",
                     "(if x then y else z) + 1", "1 + (if x then y else z)", "not (if x then y else z)", "-(if x then y else z)",
                     "(if x then y else z) or x", "x or (if x then y else z)", "(x = y) + 1", "x * (y = z)", "-(x = y)", "(not x) + y"):
            self.check([(text, text)])

    def test_parentheses_that_go(self):
        self.check([
            ("(x - y) - z", "x - y - z"), ("(x + y) - z", "x + y - z"), ("(x * y) mod z", "x * y mod z"), ("x + (y * z)", "x + y * z"),
            ("(x * y) + z", "x * y + z"), ("(-x) * y", "-x * y"), ("x * (-y)", "x * -y"), ("-(-x)", "--x"), ("(x + y) < (y * z)", "x + y < y * z"),
            ("not (x < y)", "not x < y"), ("not (not x)", "not not x"), ("(not x) and (not y)", "not x and not y"), ("(x and y) and z", "x and y and z"),
            ("(x and y) or (y and z)", "x and y or y and z"), ("(x < y) and (y < z)", "x < y and y < z"), ("((x))", "x"), ("-(x)", "-x"),
            ("-(5)", "-5"), ("-(min(x, y))", "-min(x, y)"), ("if (if x then y else z) then (if x then y else z) else (if x then y else z)",
                                                              "if if x then y else z then if x then y else z else if x then y else z"),
            ("min((if x then y else z), (x or y))", "min(if x then y else z, x or y)"), ("(if x then (y or z) else (not z))", "if x then y or z else not z"),
        ])

    def test_all_small_forms(self):
        for form in forms_over(simple_forms()):
            text = format_expression(form)
            self.assertEqual(parse(text), form, text)
            for start, end in parentheses_of(text):
                shorter = text[:start] + " " + text[start + 1:end] + " " + text[end + 1:]
                self.assertNotEqual(parse_or_none(shorter), form, text)
            self.assertNotIn("  ", text)

    def test_formatting_again_changes_nothing(self):
        parts = [X, ("neg", ONE), ("if", X, Y, Z), ("not", ("=", X, Y)), ("-", X, ("+", Y, Z)), ("or", X, ("and", Y, Z))]
        for form in forms_over(list(forms_over(parts))[::23]):
            text = format_expression(form)
            self.assertEqual(parse(text), form)
            self.assertEqual(format_expression(parse(text)), text)

    def test_all_rows_of_tokens(self):
        """Whatever is parsed is formatted with no more tokens, and parsed again as the same form."""
        tokens = ("x", "1", "-", "not", "=", "or", "(", ")", "*")
        for size in range(1, 6):
            for row in itertools.product(tokens, repeat=size):
                form = parse_or_none(" ".join(row))
                if form is not None:
                    text = format_expression(form)
                    self.assertEqual(parse(text), form)
                    self.assertLessEqual(len(re.findall(r"[a-z]+|\S", text)), size)

    def test_deep_forms(self):
        for opening, inner, closing, many in (("-", "x", "", 29), ("not ", "x", "", 29), ("1 - (", "x - y", ")", 29), ("-(1 + ", "(x - y)", ")", 13)):
            text = opening * many + inner + closing * many
            self.assertEqual(format_expression(parse(text)), text)
        self.assertEqual(format_expression(parse("(" * 29 + "x" + ")" * 29)), "x")
        self.assertEqual(format_expression(parse("x" + " - y" * 59)), "x" + " - y" * 59)


if __name__ == "__main__":
    unittest.main()
