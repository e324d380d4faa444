"""Point 9: the values of expressions."""

import unittest

from limitrun.syntax import evaluate, parse_expression

VALUES = (-7, -3, -2, -1, 0, 1, 2, 3, 7)


def value_of(text, **values):
    return evaluate(parse_expression(text, list(values)), values)


def remainder(first, second):
    """Point 9's remainder, found by steps towards it."""
    if second == 0:
        return 0
    while first < 0 or first >= abs(second):
        first += abs(second) if first < 0 else -abs(second)
    return first + second if first != 0 and second < 0 else first


class EvaluateTest(unittest.TestCase):
    def check_pairs(self, text, expected):
        for x in VALUES:
            for y in VALUES:
                with self.subTest(text=text, x=x, y=y):
                    value = value_of(text, x=x, y=y)
                    self.assertEqual(value, expected(x, y))
                    self.assertIs(type(value), int)

    def test_arithmetic(self):
        self.check_pairs("x + y", lambda x, y: x + y)
        self.check_pairs("x - y", lambda x, y: x - y)
        self.check_pairs("x * y", lambda x, y: x * y)
        self.check_pairs("-x", lambda x, y: 0 - x)
        self.check_pairs("min(x, y)", lambda x, y: x if x < y else y)
        self.check_pairs("max(x, y)", lambda x, y: y if x < y else x)
        self.check_pairs("42", lambda x, y: 42)
        self.check_pairs("y", lambda x, y: y)

    def test_remainders(self):
        self.check_pairs("x mod y", remainder)
        cases = [("7 mod 3", 1), ("-7 mod 3", 2), ("7 mod -3", -2), ("-7 mod -3", -1), ("6 mod 3", 0), ("-6 mod 3", 0), ("6 mod -3", 0),
                 ("0 mod 5", 0), ("0 mod -5", 0), ("5 mod 0", 0), ("-5 mod 0", 0), ("0 mod 0", 0), ("5 mod 1", 0), ("2 mod 5", 2), ("2 mod -5", -3)]
        for text, expected in cases:
            with self.subTest(text=text):
                self.assertEqual(value_of(text), expected)

    def test_comparisons(self):
        self.check_pairs("x = y", lambda x, y: 1 if x == y else 0)
        self.check_pairs("x != y", lambda x, y: 0 if x == y else 1)
        self.check_pairs("x < y", lambda x, y: 1 if x < y else 0)
        self.check_pairs("x <= y", lambda x, y: 1 if x <= y else 0)
        self.check_pairs("x > y", lambda x, y: 1 if x > y else 0)
        self.check_pairs("x >= y", lambda x, y: 1 if x >= y else 0)

    def test_connections(self):
        self.check_pairs("x or y", lambda x, y: 0 if (x, y) == (0, 0) else 1)
        self.check_pairs("x and y", lambda x, y: 0 if 0 in (x, y) else 1)
        self.check_pairs("not x", lambda x, y: 1 if x == 0 else 0)
        self.check_pairs("not not x", lambda x, y: 0 if x == 0 else 1)

    def test_conditions(self):
        self.check_pairs("if x then 5 else y", lambda x, y: y if x == 0 else 5)
        self.check_pairs("if x then y else 5", lambda x, y: 5 if x == 0 else y)
        self.check_pairs("if x < y then x else y", lambda x, y: x if x < y else y)
        self.assertEqual([value_of("if 1 then 2 else 3"), value_of("if 0 then 2 else 3"), value_of("if -1 then 2 else 3")], [2, 3, 2])

    def test_nested(self):
        cases = [("1 + 2 * 3", 7), ("(1 + 2) * 3", 9), ("10 - 3 - 2", 5), ("10 - (3 - 2)", 9), ("2 * 7 mod 4", 2), ("2 * (7 mod 4)", 6),
                 ("--5", 5), ("-2 * -3", 6), ("1 < 2 and 2 < 3", 1), ("not 1 = 2", 1), ("(not 1) = 0", 1), ("1 or 0 and 0", 1), ("(1 or 0) and 0", 0),
                 ("(3 = 3) = 0", 0), ("(2 < 3) + (3 < 4)", 2), ("max(1, min(5, 3)) * 2", 6), ("999999 * 999999", 999998000001)]
        for text, expected in cases:
            with self.subTest(text=text):
                self.assertEqual(value_of(text), expected)

    def test_many_operands(self):
        self.assertEqual(value_of("x" + " + x" * 59, x=2), 120)
        self.assertEqual(value_of("-" * 29 + "x", x=2), -2)
        self.assertEqual(value_of("(" * 29 + "x" + ")" * 29, x=2), 2)

    def test_the_values_do_not_change(self):
        values = {"x": 3, "y": 0, "other": -4}
        for text in ("x + y", "x mod y", "if y then x else -x", "not x or y and other", "min(x, y)", "x = y"):
            evaluate(parse_expression(text, ["x", "y", "other"]), values)
            self.assertEqual(values, {"x": 3, "y": 0, "other": -4})


if __name__ == "__main__":
    unittest.main()
