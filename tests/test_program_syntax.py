"""Points 7, 8 and 10: the texts of programs."""

import itertools
import unittest

from limitrun.errors import SyntaxProblem
from limitrun.syntax import format_program, names_of, parse_program

X, Y, ONE = ("name", "x"), ("name", "y"), ("int", 1)
VAR_X = "var x 0..1 = 0 limit low"
VAR_Y = "var y -2..2 = -1 limit keep -2"
FORM_X = ("x", 0, 1, 0, ("low",))
FORM_Y = ("y", -2, 2, -1, ("keep", -2))


class ProgramTest(unittest.TestCase):
    def check_problem(self, text, line, column):
        with self.subTest(text=text[:300]):
            try:
                parsed = parse_program(text)
            except SyntaxProblem as problem:
                self.assertEqual((problem.line, problem.column), (line, column))
            else:
                self.fail(f"it is parsed as {parsed}")

    def check_problem_at_mark(self, *lines):
        """The mark is a "@" before the first character of the problem."""
        before, behind = "\n".join(lines).split("@", 1)
        self.check_problem(before + behind, before.count("\n") + 1, len(before) - before.rfind("\n"))

    def check_form(self, text, form):
        with self.subTest(text=text):
            self.assertEqual(parse_program(text), form)


class FormTest(ProgramTest):
    def test_examples(self):
        self.check_form("var x 0..1 = 0 limit set 0\nx := 1 - x",
                        ((("x", 0, 1, 0, ("set", 0)),), None, (("x", ("-", ONE, X)),)))
        self.check_problem("var x 0..1 = 2 limit low", 1, 14)

    def test_rules(self):
        for rule, form in (("low", ("low",)), ("high", ("high",)), ("keep 3", ("keep", 3)), ("set -2", ("set", -2)), ("set 0", ("set", 0)),
                           ("keep - 1", ("keep", -1)), ("set -0", ("set", 0))):
            self.check_form(f"var x -2..3 = 1 limit {rule}", ((("x", -2, 3, 1, form),), None, ()))

    def test_integers(self):
        for low, high, start in ((0, 0, 0), (-5, -5, -5), (-3, 4, -3), (-3, 4, 4), (999940, 999999, 999950), (-999999, -999940, -999999), (7, 10, 8)):
            self.check_form(f"var x {low}..{high} = {start} limit low", ((("x", low, high, start, ("low",)),), None, ()))
        self.check_form("var x - 3 .. - 1=- 2 limit keep - 3", ((("x", -3, -1, -2, ("keep", -3)),), None, ()))
        self.check_form("var x -0..-0 = -0 limit set -0", ((("x", 0, 0, 0, ("set", 0)),), None, ()))
        parsed = parse_program("var x -0..1 = -0 limit low")
        self.assertEqual([type(number) for number in parsed[0][0][1:4]], [int, int, int])

    def test_items_in_any_allowed_order(self):
        declarations = f"{VAR_Y}\n{VAR_X}\n"
        form = ((FORM_Y, FORM_X), ("=", X, Y), (("y", ONE), ("x", Y)))
        for order in itertools.permutations(("halt x = y", "x := y", "y := 1")):
            self.check_form(declarations + "\n".join(order), form)
        self.check_form(declarations, ((FORM_Y, FORM_X), None, ()))
        self.check_form(declarations + "x := y", ((FORM_Y, FORM_X), None, (("x", Y),)))
        self.check_form(declarations + "halt 1", ((FORM_Y, FORM_X), ONE, ()))

    def test_forms_are_tuples(self):
        parsed = parse_program(f"{VAR_X}\n{VAR_Y}\nhalt x\nx := y")
        self.assertEqual([type(part) for part in parsed], [tuple, tuple, tuple])
        self.assertEqual([type(part) for part in parsed[0] + parsed[2]], [tuple, tuple, tuple])
        self.assertIs(type(parsed[0][0][4]), tuple)

    def test_comments_and_empty_lines(self):
        form = ((FORM_X,), X, (("x", ONE),))
        self.check_form(f"# one\n\n   \n{VAR_X}   # two ? ABC \t 007 abcdefghij\n#\nhalt x#halt x\n# x := 1\n  x:=1 ## # := \n\n", form)
        self.check_form(VAR_X + "#" + "? " * 4900 + "\nhalt x\nx := 1", form)
        self.check_form("\n" * 5 + VAR_X + "#" * 500 + "\n\n\nhalt x\nx := 1#" + "x " * 500, form)

    def test_spaces(self):
        form = ((FORM_X,), X, (("x", ONE),))
        self.check_form("   var   x   0  ..  1   =   0   limit   low   \n  halt   x\n x   :=   1 ", form)
        self.check_form("var x 0..1=0 limit low\nhalt(x)\nx:=1", form)

    def test_names(self):
        for name in ("a", "abcdefgh", "x1", "z1234567", "vars", "halted", "limits", "low1"):
            self.check_form(f"var {name} 0..1 = 0 limit low\n{name} := 1\nhalt {name}",
                            (((name, 0, 1, 0, ("low",)),), ("name", name), ((name, ONE),)))

    def test_names_of(self):
        self.assertEqual(names_of(parse_program(f"{VAR_Y}\n{VAR_X}\nx := y")), ["y", "x"])
        program = parse_program(VAR_X)
        first = names_of(program)
        self.assertIs(type(first), list)
        first.append("z")
        self.assertEqual(names_of(program), ["x"])


class LimitTest(ProgramTest):
    def test_lines(self):
        forty = VAR_X + "\n" + "# comment\n" * 38 + "x := 1"
        self.assertEqual(parse_program(forty), ((FORM_X,), None, (("x", ONE),)))
        for more in ("\n", "\nhalt x", "\n# comment", "\n   ", "\n?", "\n\n\n", "\nvar"):
            self.check_problem(forty + more, 41, 1)
        self.check_problem("\n" * 40, 41, 1)
        self.check_problem("\n" * 39, 41, 1)
        self.check_problem("\n" * 100, 41, 1)
        self.check_problem("\n" * 9999, 41, 1)
        self.check_problem("\n" * 39 + "var x 0..", 40, 10)
        self.check_problem("\n" * 40 + "?", 41, 1)
        self.check_problem("\n" * 39 + "  ?\n?", 40, 3)
        self.check_form("\n" * 39 + VAR_X, ((FORM_X,), None, ()))

    def test_no_problem_behind_line_41_comes_first(self):
        self.check_problem(VAR_X + "\n" * 40 + "x := ?", 41, 1)
        self.check_problem(VAR_X + "\n" * 39 + "x := ?", 40, 6)


class NoVariableTest(ProgramTest):
    def test_the_line_behind_the_last_one(self):
        for text, line in (("", 2), ("\n", 3), ("# comment", 2), ("# comment\n", 3), ("   ", 2), ("  \n  ", 3), ("\n\n\n", 5), ("halt 1", 2), ("halt 1\n", 3),
                           ("\nhalt 1 # x", 3), ("halt 1 + 1\n\n\n", 5)):
            self.check_problem(text, line, 1)

    def test_other_problems_come_first(self):
        self.check_problem("halt x", 1, 6)
        self.check_problem("x := 1", 1, 1)
        self.check_problem("halt 1\nhalt 1", 2, 1)
        self.check_problem("halt 1\n" + VAR_X, 2, 1)
        self.check_problem("halt", 1, 5)
        self.check_problem("\n\n  ?", 3, 3)
        self.check_problem("x := 1\n" + VAR_X, 1, 1)


class DeclarationTest(ProgramTest):
    ROW = ("var", "x", "-", "1", "..", "2", "=", "0", "limit", "keep", "1")
    VOCABULARY = ("var", "x", "halt", "low", "high", "keep", "set", "limit", "if", "-", "1", "..", "=", ":=", "(", ",", "+", "<=")
    # What else may stand at each place of the row, without a problem at this very place.
    ALLOWED = (("var", "halt"), ("x",), ("-", "1"), ("1",), ("..",), ("-", "1"), ("=",), ("-", "1"), ("limit",), ("low", "high", "keep", "set"), ("-", "1"), ())

    def test_each_token_that_does_not_fit(self):
        for place in range(len(self.ROW) + 1):
            for token in self.VOCABULARY:
                if token not in self.ALLOWED[place]:
                    before = " ".join(self.ROW[:place] + ("",))
                    self.check_problem(before + token + " 5 5", 1, len(before) + 1)

    def test_each_end_of_a_line(self):
        for place in range(1, len(self.ROW)):
            text = " ".join(self.ROW[:place])
            self.check_problem(text, 1, len(text) + 1)
            self.check_problem(text + "   ", 1, len(text) + 4)
            self.check_problem(text + "  # low 1", 1, len(text) + 3)
            self.check_problem(text + "#", 1, len(text) + 1)
            self.check_problem(text + "\n" + " ".join(self.ROW[place:]), 1, len(text) + 1)

    def test_words_as_names(self):
        for word in "var limit low high keep set halt not and or mod if then else min max".split():
            self.check_problem_at_mark(f"var @{word} 0..1 = 0 limit low")
            if word not in ("var", "halt"):
                self.check_problem_at_mark(VAR_X, f"@{word} := 1")

    def test_a_name_that_is_declared_twice(self):
        self.check_problem_at_mark(VAR_X, VAR_Y, "var @x 0..1 = 0 limit low")
        self.check_problem_at_mark(VAR_X, VAR_Y, "  var   @y 5..3 = 7")
        self.check_problem_at_mark(VAR_X, "var @x")

    def test_a_declaration_behind_another_item(self):
        for item in ("halt 1", "halt x", "x := 1"):
            self.check_problem_at_mark(VAR_X, item, "@" + VAR_Y)
            self.check_problem_at_mark(VAR_X, item, "# comment", "   @var", VAR_X)
            self.check_problem_at_mark(VAR_X, item, "@" + VAR_X)

    def test_high(self):
        self.check_problem_at_mark("var x 1..@0 = 0 limit low")
        self.check_problem_at_mark("var x 1..@-1 = 5 limit low")
        self.check_problem_at_mark("var x 1 ..  @- 1 = 5 limit low")
        self.check_problem_at_mark("var x -1..@-2 = 5 limit low")
        self.check_problem_at_mark("var x 0..@-1")
        self.check_problem_at_mark("var x 1..-@")
        self.check_problem_at_mark("var x 1..-@x")
        self.check_problem_at_mark("var x 1..- @- 1")
        self.check_problem_at_mark("var x 1..@-0 = 0 limit low")
        self.check_problem_at_mark("var x 999999..@0 = 0 limit low")

    def test_products(self):
        self.check_form("var x 0..59 = 0 limit low", ((("x", 0, 59, 0, ("low",)),), None, ()))
        self.check_form("var x -30..29 = 0 limit low", ((("x", -30, 29, 0, ("low",)),), None, ()))
        self.check_problem_at_mark("var x 0..@60 = 0 limit low")
        self.check_problem_at_mark("var x -30..@30 = 99 limit low")
        self.check_problem_at_mark("var x -90..@-30 = 99 limit low")
        self.check_problem_at_mark("var x 0..@999999")
        factors = "var a 0..1 = 0 limit low\nvar b 1..3 = 1 limit low\nvar c -1..0 = 0 limit low"
        parse_program(factors + "\nvar d 0..4 = 0 limit low")
        parse_program(factors + "\nvar d 0..4 = 0 limit low\nvar e 7..7 = 7 limit low\nvar f -2..-2 = -2 limit set -2")
        self.check_problem_at_mark(factors, "var d 0..@5 = 0 limit low")
        self.check_problem_at_mark(factors, "var d 0..4 = 0 limit low", "var e 7..@8 = 0 limit low")
        self.check_problem_at_mark(factors, "var d -2..@3 = 9 limit nothing")

    def test_start(self):
        self.check_problem_at_mark("var x 0..1 = @2 limit low")
        self.check_problem_at_mark("var x 0..1 = @-1 limit low")
        self.check_problem_at_mark("var x 0..1 =  @- 1 limit what")
        self.check_problem_at_mark("var x 1..2 = @-0 limit low")
        self.check_problem_at_mark("var x 1..2 = - @limit low")
        self.check_problem_at_mark("var x -3..-2 = @-1 limit low")
        self.check_problem_at_mark("var x -3..-2 = @-4 limit low")
        self.check_problem_at_mark("var x -3..-2 = @3")
        self.check_problem_at_mark("var x -3..-2 = @0")

    def test_the_integer_of_a_rule(self):
        for rule in ("keep", "set"):
            self.check_problem_at_mark(f"var x 0..1 = 0 limit {rule} @2")
            self.check_problem_at_mark(f"var x 0..1 = 0 limit {rule} @-1")
            self.check_problem_at_mark(f"var x 0..1 = 0 limit {rule}  @- 1 x")
            self.check_problem_at_mark(f"var x 5..6 = 5 limit {rule} @4")
            self.check_problem_at_mark(f"var x 5..6 = 5 limit {rule} @7 7")
            self.check_problem_at_mark(f"var x 0..1 = 0 limit {rule} -@")
            self.check_problem_at_mark(f"var x 0..1 = 0 limit {rule}@")
            self.check_problem_at_mark(f"var x 0..1 = 0 limit {rule} 1 @1")

    def test_rules_that_take_no_integer(self):
        for rule in ("low", "high"):
            self.check_problem_at_mark(f"var x 0..1 = 0 limit {rule} @0")
            self.check_problem_at_mark(f"var x 0..1 = 0 limit {rule} @-")
            self.check_problem_at_mark(f"var x 0..1 = 0 limit {rule} @{rule}")

    def test_numbers_that_are_no_tokens(self):
        self.check_problem_at_mark("var x 0..@1000000 = 0 limit low")
        self.check_problem_at_mark("var x @00..1 = 0 limit low")
        self.check_problem_at_mark("var x -@01..1 = 0 limit low")
        self.check_problem_at_mark("var x 0..1 = 0 limit set @01")
        self.check_problem_at_mark("var x 0@.1 = 0 limit low")
        self.check_problem_at_mark("var x 0..@.1 = 0 limit low")
        self.check_problem_at_mark("var @abcdefghi 0..1 = 0 limit low")
        self.check_problem_at_mark("var @X 0..1 = 0 limit low")
        self.check_problem_at_mark("var x@\t0..1 = 0 limit low")


class OtherItemTest(ProgramTest):
    def test_first_tokens(self):
        for token in ("1", "-", "(", ":=", "=", "low", "high", "keep", "set", "limit", "not", "and", "or", "mod", "if", "then", "else", "min", "max", "..", ","):
            self.check_problem_at_mark(VAR_X, f"@{token} x := 1")
            self.check_problem_at_mark(VAR_X, f"   @{token}")

    def test_halt(self):
        self.check_problem_at_mark(VAR_X, "halt@")
        self.check_problem_at_mark(VAR_X, "halt  @# x")
        self.check_problem_at_mark(VAR_X, "halt x @x")
        self.check_problem_at_mark(VAR_X, "halt @:= x")
        self.check_problem_at_mark(VAR_X, "halt x + @y")
        self.check_problem_at_mark(VAR_X, "halt x", "x := 1", "  @halt")
        self.check_problem_at_mark(VAR_X, "halt x", "@halt x")
        self.check_problem_at_mark(VAR_X, "halt 0", "@halt 0")

    def test_assignments(self):
        self.check_problem_at_mark(VAR_X, "x @= 1")
        self.check_problem_at_mark(VAR_X, "x@")
        self.check_problem_at_mark(VAR_X, "x :=@")
        self.check_problem_at_mark(VAR_X, "x :=  @# 1")
        self.check_problem_at_mark(VAR_X, "x := 1 @:= 1")
        self.check_problem_at_mark(VAR_X, "x := x @x")
        self.check_problem_at_mark(VAR_X, "x := @y")
        self.check_problem_at_mark(VAR_X, "@y := 1")
        self.check_problem_at_mark(VAR_X, "@y")
        self.check_problem_at_mark(VAR_X, "  @y 1")
        self.check_problem_at_mark(VAR_X, VAR_Y, "x := 1", "y := 1", "@x := 1")
        self.check_problem_at_mark(VAR_X, VAR_Y, "x := 1", "@x")
        self.check_problem_at_mark(VAR_X, VAR_Y, "x := 1", "@x = 2")
        self.check_problem_at_mark(VAR_X, "x @: = 1")

    def test_depth(self):
        parse_program(f"{VAR_X}\nx := {'(' * 29}x{')' * 29}\nhalt {'-' * 29}x")
        self.check_problem_at_mark(VAR_X, "x := " + "(" * 30 + "@x" + ")" * 30)
        self.check_problem_at_mark(VAR_X, "halt " + "-" * 30 + "@x")
        self.check_problem_at_mark(VAR_X, "halt " + "not " * 30 + "@x")

    def test_the_number_of_tokens(self):
        parse_program(f"{VAR_X}\nhalt -x{' - x' * 58} # {'x ' * 100}")
        parse_program(f"{VAR_X}\nhalt --x{' - x' * 58}")
        self.check_problem_at_mark(VAR_X, "halt -x" + " - x" * 58 + " -@")
        self.check_problem_at_mark(VAR_X, "halt -x" + " - x" * 58 + " - @x")
        self.check_problem_at_mark(VAR_X, "halt ---x" + " - x" * 57 + " - @x")
        parse_program(f"{VAR_X}\nx := x{' - x' * 58}")
        parse_program(f"{VAR_X}\nx := -x{' - x' * 58}")
        self.check_problem_at_mark(VAR_X, "x := --x" + " - x" * 57 + " - @x")
        self.check_problem_at_mark(VAR_X, "x " * 120 + "@x")
        self.check_problem_at_mark("var " * 120 + "  @var # var")
        self.check_problem_at_mark(VAR_X, "x @x" + " x" * 118 + " # x")


class SeveralProblemsTest(ProgramTest):
    def test_in_one_text(self):
        self.check_problem_at_mark(VAR_X, "x := @y", "x := ?")
        self.check_problem_at_mark("var x 0..@60 = 0 limit low", "?")
        self.check_problem_at_mark(VAR_X, "@y := 1", "halt", "var")
        self.check_problem_at_mark(VAR_X, "halt x @x", "halt x", "\n" * 60)
        self.check_problem_at_mark("@?" + "\n" * 60)

    def test_all_tokens_of_a_line_are_read_first(self):
        self.check_problem_at_mark("var if 5..3 = 9 limit keep @?")
        self.check_problem_at_mark("halt ) @01 ?", VAR_X)
        self.check_problem_at_mark(VAR_X, "halt 1", "var x 0..1 = @007 limit low")
        self.check_problem_at_mark(VAR_X, "y := @abcdefghi")
        self.check_problem_at_mark(VAR_X, "halt x", "halt @!")
        self.check_problem_at_mark(VAR_X, "y y @Y # ?", "?")

    def test_in_one_line(self):
        self.check_problem_at_mark("var @if 5..3 = 9 limit keep 7")
        self.check_problem_at_mark("var x 5..@3 = 9 limit keep 7")
        self.check_problem_at_mark("var x 3..5 = @9 limit keep 7")
        self.check_problem_at_mark("var x 3..5 = 4 limit keep @7 7")
        self.check_problem_at_mark("var x 3..5 = 4 limit @keeps 7 7")
        self.check_problem_at_mark(VAR_X, "halt 1", "@var x 5..3")
        self.check_problem_at_mark(VAR_X, "x := @a + b")
        self.check_problem_at_mark(VAR_X, "@a := b")
        self.check_problem_at_mark(VAR_X, "x := 1", "@x := a")

    def test_characters_in_comments_are_no_problems(self):
        parse_program(f"# ? 007 abcdefghij \t {'x ' * 130}\n{VAR_X} # ?\nx := 1 # A .")


class CanonicalTextTest(ProgramTest):
    TEXTS = (
        VAR_X,
        f"{VAR_X}\n{VAR_Y}",
        "var x -3..-1 = -2 limit set -3\nvar y 0..9 = 0 limit high\nhalt x = -1\nx := -x + 1\ny := y mod 3",
        "var abcdefgh 0..1 = 1 limit keep 0\nhalt 1",
        "var x 0..1 = 0 limit low\nvar y 0..2 = 0 limit set 2\nx := if y = 2 then 1 else min(x, y)\ny := max(0, -(x - 1))",
    )

    def test_canonical_texts(self):
        for text in self.TEXTS:
            with self.subTest(text=text):
                self.assertEqual(format_program(parse_program(text)), text)

    def test_other_texts(self):
        cases = [
            ("# a\n\n var  x  0 .. 1=0   limit  low # b\n", VAR_X),
            (f"{VAR_X}\nx:=1-x\nhalt(x=1)\n\n", f"{VAR_X}\nhalt x = 1\nx := 1 - x"),
            (f"{VAR_Y}\n{VAR_X}\nx := (y)\ny := ((x)+1)", f"{VAR_Y}\n{VAR_X}\ny := x + 1\nx := y"),
            ("var x - 1..-0 = - 1 limit keep -0", "var x -1..0 = -1 limit keep 0"),
            ("var x 0..1 = 0 limit set 1\nx := min ( x ,- (x) )", "var x 0..1 = 0 limit set 1\nx := min(x, -x)"),
        ]
        for text, canonical in cases:
            with self.subTest(text=text):
                program = parse_program(text)
                self.assertEqual(format_program(program), canonical)
                self.assertEqual(parse_program(canonical), program)


if __name__ == "__main__":
    unittest.main()
