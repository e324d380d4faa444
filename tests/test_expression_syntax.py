"""Points 8 and 9: the tokens and the grammar of expressions."""

import ast
import itertools
import unittest

from limitrun.errors import SyntaxProblem
from limitrun.syntax import parse_expression

NAMES = ["x", "y", "z"]
X, Y, Z = ("name", "x"), ("name", "y"), ("name", "z")
RANKS = (("or",), ("and",), ("=", "!=", "<", "<=", ">", ">="), ("+", "-"), ("*", "mod"))
PAIRS = tuple(sign for signs in RANKS for sign in signs)
COMPARISONS = RANKS[2]
WORDS = "var limit low high keep set halt not and or mod if then else min max".split()


def integer(number):
    return ("int", number)


def parse(text):
    return parse_expression(text, NAMES)


def rank_of(sign):
    return [at for at, signs in enumerate(RANKS) if sign in signs][0]


class ExpressionTest(unittest.TestCase):
    def check_problem(self, text, column, names=None):
        with self.subTest(text=text[:200]):
            try:
                parsed = parse_expression(text, NAMES if names is None else names)
            except SyntaxProblem as problem:
                self.assertEqual((problem.line, problem.column), (1, column))
            else:
                self.fail(f"it is parsed as {parsed}")

    def check_problem_at_mark(self, text):
        """The mark is a "@" before the first character of the problem."""
        self.check_problem(text.replace("@", "", 1), text.index("@") + 1)

    def check_forms(self, cases):
        for text, form in cases:
            with self.subTest(text=text):
                self.assertEqual(parse(text), form)


class FormTest(ExpressionTest):
    def test_examples(self):
        self.assertEqual(parse_expression("if x < 2 then x + 1 else 0", ["x"]),
                         ("if", ("<", X, ("int", 2)), ("+", X, ("int", 1)), ("int", 0)))
        self.check_problem("(x+1) - (x - (2))*not", 19, ["x"])

    def test_each_operator(self):
        for sign in PAIRS:
            self.check_forms([(f"x {sign} y", (sign, X, Y)), (f"1 {sign} 2", (sign, integer(1), integer(2)))])
        self.check_forms([
            ("not x", ("not", X)), ("-x", ("neg", X)), ("- x", ("neg", X)), ("-5", ("neg", integer(5))),
            ("min(x, y)", ("min", X, Y)), ("max(x, 2)", ("max", X, integer(2))), ("(x)", X), ("((7))", integer(7)),
            ("x", X), ("0", integer(0)), ("42", integer(42)), ("if x then y else z", ("if", X, Y, Z)),
        ])

    def test_forms_are_tuples_and_numbers_are_integers(self):
        form = parse("if min(x, 1) then -y else z + 2")
        self.assertIsInstance(form, tuple)
        self.assertEqual([type(part) for part in form], [str, tuple, tuple, tuple])
        self.assertIs(type(parse("1")[1]), int)

    def test_association_of_equal_signs(self):
        for sign in ("or", "and", "+", "-", "*", "mod"):
            self.check_forms([
                (f"x {sign} y {sign} z", (sign, (sign, X, Y), Z)),
                (f"(x {sign} y) {sign} z", (sign, (sign, X, Y), Z)),
                (f"x {sign} (y {sign} z)", (sign, X, (sign, Y, Z))),
                (f"x {sign} y {sign} z {sign} 1", (sign, (sign, (sign, X, Y), Z), integer(1))),
            ])

    def test_two_operators(self):
        for first, second in itertools.product(PAIRS, repeat=2):
            text = f"x {first} y {second} z"
            if first in COMPARISONS and second in COMPARISONS:
                self.check_problem(text, len(f"x {first} y ") + 1)
            elif rank_of(second) > rank_of(first):
                self.check_forms([(text, (first, X, (second, Y, Z)))])
            else:
                self.check_forms([(text, (second, (first, X, Y), Z))])
            self.check_forms([(f"(x {first} y) {second} z", (second, (first, X, Y), Z)),
                              (f"x {first} (y {second} z)", (first, X, (second, Y, Z)))])

    def test_not_beside_other_operators(self):
        for sign in ("and", "or"):
            self.check_forms([(f"not x {sign} y", (sign, ("not", X), Y)), (f"x {sign} not y", (sign, X, ("not", Y))),
                              (f"not x {sign} not y", (sign, ("not", X), ("not", Y)))])
        for sign in PAIRS[2:]:
            self.check_forms([(f"not x {sign} y", ("not", (sign, X, Y))), (f"(not x) {sign} y", (sign, ("not", X), Y)),
                              (f"x {sign} (not y)", (sign, X, ("not", Y)))])
            self.check_problem_at_mark(f"x {sign} @not y")
        self.check_forms([("not not x", ("not", ("not", X))), ("not not x = y", ("not", ("not", ("=", X, Y)))),
                          ("not x + y < z * 2 and y", ("and", ("not", ("<", ("+", X, Y), ("*", Z, integer(2)))), Y))])
        self.check_problem_at_mark("not x = y @= z")
        self.check_problem_at_mark("-@not x")
        self.check_problem_at_mark("x and y = @not z")

    def test_negative_beside_other_operators(self):
        for sign in PAIRS:
            self.check_forms([(f"-x {sign} y", (sign, ("neg", X), Y)), (f"x {sign} -y", (sign, X, ("neg", Y))),
                              (f"-(x {sign} y)", ("neg", (sign, X, Y)))])
        self.check_forms([("--x", ("neg", ("neg", X))), ("x--y", ("-", X, ("neg", Y))), ("x - - - y", ("-", X, ("neg", ("neg", Y)))),
                          ("not -x", ("not", ("neg", X))), ("-min(x, y)", ("neg", ("min", X, Y))), ("-(-5)", ("neg", ("neg", integer(5))))])

    def test_where_an_if_may_stand(self):
        inner = ("if", X, Y, Z)
        self.check_forms([
            ("if if x then y else z then x else y", ("if", inner, X, Y)), ("if x then if x then y else z else y", ("if", X, inner, Y)),
            ("if x then y else if x then y else z", ("if", X, Y, inner)), ("(if x then y else z)", inner),
            ("min(if x then y else z, 1)", ("min", inner, integer(1))), ("max(1, if x then y else z)", ("max", integer(1), inner)),
            ("1 + (if x then y else z)", ("+", integer(1), inner)), ("(if x then y else z) or x", ("or", inner, X)),
            ("if x then y else z + 1", ("if", X, Y, ("+", Z, integer(1)))), ("if x or y then not z else -x", ("if", ("or", X, Y), ("not", Z), ("neg", X))),
        ])
        for sign in PAIRS:
            self.check_problem_at_mark(f"x {sign} @if x then y else z")
        self.check_problem_at_mark("not @if x then y else z")
        self.check_problem_at_mark("-@if x then y else z")

    def test_a_comparison_between_sums(self):
        self.check_forms([
            ("x + 1 < y * 2", ("<", ("+", X, integer(1)), ("*", Y, integer(2)))), ("(x < y) < z", ("<", ("<", X, Y), Z)),
            ("x = (y = z)", ("=", X, ("=", Y, Z))), ("x = y and y = z", ("and", ("=", X, Y), ("=", Y, Z))),
            ("x < y or not z >= 1 and -x != y", ("or", ("<", X, Y), ("and", ("not", (">=", Z, integer(1))), ("!=", ("neg", X), Y)))),
        ])

    def test_spaces_have_no_other_meaning(self):
        for text in ("x+1", " x + 1", "x  +  1  ", "   x+   1"):
            self.assertEqual(parse(text), ("+", X, integer(1)))
        self.assertEqual(parse("min ( x ,y )"), ("min", X, Y))
        self.assertEqual(parse("x>=-y"), (">=", X, ("neg", Y)))
        self.assertEqual(parse(" " * 9999 + "x"), X)
        self.check_problem(" " * 10000, 10001)

    def test_the_names_do_not_change_and_are_not_kept(self):
        names = ["x", "y"]
        form = parse_expression("x + y", names)
        self.assertEqual(names, ["x", "y"])
        names.append("z")
        self.assertEqual(form, ("+", X, Y))
        self.check_problem("z", 1, ["x", "y"])
        self.check_problem("x", 1, [])


class TokenTest(ExpressionTest):
    def test_numbers(self):
        for text in ("0", "1", "10", "999999", "100000", "123456"):
            self.assertEqual(parse(text), integer(int(text)))
        for text in ("1000000", "1234567", "0000000", "00", "01", "007", "0123456", "1" * 5000):
            self.check_problem(text, 1)
            self.check_problem(f"x + {text}", 5)
        self.check_problem_at_mark("x + 1 * @01 + 1")

    def test_names(self):
        for name in ("a", "abcdefgh", "x1", "z9999999", "a1b2c3d4", "iff", "nota", "min1", "lows", "mods"):
            self.assertEqual(parse_expression(name, [name]), ("name", name))
        for name in ("abcdefghi", "x12345678", "aaaaaaaaaa", "a" * 5000):
            self.check_problem(name, 1, [name])
            self.check_problem(f"x + {name}", 5, ["x", name])
        self.check_problem_at_mark("x + @abcdefghi")

    def test_names_that_are_not_declared(self):
        self.check_problem_at_mark("@a")
        self.check_problem_at_mark("x + @a * b")
        self.check_problem_at_mark("min(x, @a)")
        self.check_problem_at_mark("if x then @yy else z")
        self.check_problem_at_mark("@xy(x)")

    def test_words_are_no_names(self):
        for word in WORDS:
            names = ["x", word]
            if word in ("if", "not", "min", "max"):
                self.check_problem(word, len(word) + 1, names)
            else:
                self.check_problem(word, 1, names)
            if word not in ("and", "or", "mod"):
                self.check_problem(f"x {word} x", 3, names)
            if word not in ("not", "if", "min", "max"):
                self.check_problem(f"x + {word}", 5, names)

    def test_characters_that_start_no_token(self):
        for character in "!\"#$%&';?@[\\]^_`{|}~:./ABCXYZ\t\n":
            self.check_problem(character, 1)
            self.check_problem(f"x + {character}", 5)
            self.check_problem(f"x {character} + 1", 3)
            self.check_problem(f"x{character}", 2)
            self.check_problem(f"( ( x +{character}", 8)
        self.check_problem_at_mark("x@# + 1")
        self.check_problem_at_mark("x@\n")
        self.check_problem_at_mark("x + 1@\n+ 2")
        self.check_problem_at_mark("x@\t+ 1")

    def test_the_longest_token(self):
        self.check_problem_at_mark("x@.y")
        self.check_problem_at_mark("x @. . y")
        self.check_problem_at_mark("x@..y")
        self.check_problem_at_mark("x..@.y")
        self.check_problem_at_mark("x@....y")
        self.check_problem_at_mark("x .. @:")
        self.check_problem_at_mark("x@:y")
        self.check_problem_at_mark("x@:=y")
        self.check_problem_at_mark("x:=@:y")
        self.check_problem_at_mark("x@: = y")
        self.check_problem_at_mark("x@!y")
        self.check_problem_at_mark("x@! = y")
        self.check_problem_at_mark("x!=@!y")
        self.check_problem_at_mark("x != y@!!")
        self.check_problem_at_mark("x<=@=y")
        self.check_problem_at_mark("x<@>y")
        self.check_problem_at_mark("x< @=y")
        self.check_problem_at_mark("x=@<y")
        self.check_problem_at_mark("x=@=y")
        self.check_problem_at_mark("x>=@=y")
        self.check_problem_at_mark("x>=@>=y")
        self.check_forms([("x<=y", ("<=", X, Y)), ("x>=y", (">=", X, Y)), ("x!=y", ("!=", X, Y)), ("x<y", ("<", X, Y)),
                          ("x<-y", ("<", X, ("neg", Y))), ("x=-1", ("=", X, ("neg", integer(1))))])

    def test_numbers_and_names_side_by_side(self):
        self.check_problem_at_mark("1@x")
        self.check_problem_at_mark("1x + @01")
        self.check_problem_at_mark("x + 12@y")
        self.check_problem_at_mark("1 @or2")
        self.check_problem_at_mark("1 @2")
        self.check_problem_at_mark("x@X")
        self.check_problem_at_mark("1@X")
        self.assertEqual(parse("1or 2"), ("or", integer(1), integer(2)))
        self.assertEqual(parse("not(x)and(y)"), ("and", ("not", X), Y))

    def test_tokens_are_read_before_they_are_parsed(self):
        self.check_problem_at_mark(") ) + @!")
        self.check_problem_at_mark("a b c @abcdefghi 01")
        self.check_problem_at_mark("+ + @01 abcdefghi")
        self.check_problem_at_mark("+ + @1234567 ?")
        self.check_problem_at_mark("x + + y @?")
        self.check_problem_at_mark("@? abcdefghi 007")

    def test_the_first_problem_of_several(self):
        self.check_problem_at_mark("x + @) + ) + b")
        self.check_problem_at_mark("@b + ) + a")
        self.check_problem_at_mark("x + y @z + b")
        self.check_problem_at_mark("(x @y")
        self.check_problem_at_mark("x = y @= a")
        self.check_problem_at_mark("x = @a = y")

    def test_the_number_of_tokens(self):
        sixty = "x" + " - y" * 59 + " "
        self.check_problem_at_mark(sixty + "-@")
        self.check_problem_at_mark(sixty + "- @x")
        self.check_problem_at_mark(sixty + "-@01")
        self.check_problem_at_mark(sixty + "-  @? x x x")
        self.check_problem_at_mark("- " + "x" + " - y" * 59 + " @- y")
        self.check_problem_at_mark("x " * 120 + "@x")
        self.check_problem_at_mark("x @x" + " x" * 118)
        self.check_problem_at_mark("x " * 120 + "@?")
        self.check_problem_at_mark(") " * 120 + "@) ?")
        self.check_problem_at_mark("x " * 119 + "@? x x")
        form = X
        for count in range(59):
            form = ("-", form, Y)
        self.assertEqual(parse(sixty), form)
        negative = parse("-" + sixty)
        for count in range(59):
            negative = negative[1]
        self.assertEqual(negative, ("neg", X))


class PlaceTest(ExpressionTest):
    def test_the_end_counts_as_a_token(self):
        for text in ("@", "   @", "x +@", "x + @", "(@", "(x@", "not@", "-@", "min@", "min(@", "min(x@", "min(x,@", "min(x, y@", "if@", "if x@",
                     "if x then@", "if x then y@", "if x then y else@", "x and  @", "x = @", "(x + (y)@"):
            self.check_problem_at_mark(text)

    def test_tokens_that_do_not_fit(self):
        for text in (
                "@)", "x@)", "x @,y", "(@)", "(x@,y)", "(x @y)", "x@(y)", "1@(x)", "(x)@(y)", "(x) @y",
                "min @x", "min(@)", "min(x@)", "min(x, y@, z)", "max(@, x)", "max((x@, y))", "min(x @y)", "min(x, y) @z", "min(x,@)",
                "if @then", "if x @else", "if x then y @", "if x then y @then z", "if x then y else @else", "if x @y",
                "if x then y else z @else x", "if x then y else z @then x", "x @then y", "@then", "@else x", "x @if",
                "x + @+ y", "@* x", "x * @* y", "@mod x", "x mod @mod", "@= x", "x = @= y", "x = y @= z", "x < y @>= z", "@and x",
                "x and @or y", "x @not y", "not @and", "not @)", "not @=", "-@)", "-@+x", "@+x", "x -@*y", "-@mod x", "@, x",
                "x @1", "1 @x", "1 @2", "x @y", "@:= x", "x @:= y", "x @.. y", "@.. y", "@var x", "@limit", "@halt x", "x @low"):
            self.check_problem_at_mark(text)

    def test_columns_count_spaces(self):
        self.check_problem_at_mark("   x    +     @*")
        self.check_problem_at_mark("        @")
        self.check_problem_at_mark("  min  (  x  @)  ")


class DepthTest(ExpressionTest):
    """Thirty levels are read, and the first token of the thirty-first is the problem."""

    def check_depth(self, opening, closing):
        for levels in (29, 30):
            parse(opening * (levels - 1) + "x" + closing * (levels - 1))
        for levels in (31, 32):
            self.check_problem(opening * (levels - 1) + "x" + closing * (levels - 1), 30 * len(opening) + 1)

    def test_parentheses(self):
        self.check_depth("(", ")")
        self.check_depth("( ", " )")
        parse("1+(" * 29 + "x" + ")" * 29)
        self.check_problem_at_mark("1+(" * 30 + "@x")
        self.assertEqual(parse("(" * 29 + "x" + ")" * 29), X)

    def test_not(self):
        self.check_depth("not ", "")
        form = X
        for count in range(29):
            form = ("not", form)
        self.assertEqual(parse("not " * 29 + "x"), form)

    def test_negative(self):
        self.check_depth("-", "")
        self.check_depth("- ", "")
        form = X
        for count in range(29):
            form = ("neg", form)
        self.assertEqual(parse("-" * 29 + "x"), form)

    def test_arguments(self):
        # Thirty calls have more than 120 tokens: parentheses make up the levels.
        for call, closing in (("min(", ", y)"), ("max(", ", y)"), ("min(y, ", ")"), ("max(y, ", ")")):
            for calls in (1, 3, 5):
                outside = 29 - calls
                good = "(" * outside + call * calls + "x" + closing * calls + ")" * outside
                self.assertEqual(parse(good)[0], call[:3])
                # The first argument of the innermost call is the first one that is too deep.
                self.check_problem("(" + good + ")", 1 + outside + len(call) * (calls - 1) + len("min(") + 1)
        self.check_problem_at_mark("(" * 29 + "min(@y, x)" + ")" * 29)
        self.check_problem_at_mark("(" * 28 + "min(y, (@x))" + ")" * 28)

    def test_parts_of_an_if(self):
        for part, closing in (("if ", " then y else z"), ("if x then ", " else z"), ("if x then y else ", "")):
            for many in (1, 4, 10):
                outside = 29 - many
                good = "(" * outside + part * many + "x" + closing * many + ")" * outside
                self.assertEqual(parse(good)[0], "if")
                # The condition of the innermost if is the first part that is too deep.
                self.check_problem("(" + good + ")", 1 + outside + len(part) * (many - 1) + len("if ") + 1)

    def test_each_part_of_the_deepest_if(self):
        open_levels = 29
        self.check_problem_at_mark("(" * open_levels + "if @x then y else z" + ")" * open_levels)
        self.check_problem_at_mark("(" * 28 + "if x then (@y) else z" + ")" * 28)
        self.check_problem_at_mark("(" * 28 + "if x then y else -@z" + ")" * 28)
        parse("(" * 28 + "if x then y else z" + ")" * 28)

    def test_an_else_is_one_level_below_its_if(self):
        chain = "if x then y else "
        parse(chain * 19 + "x")
        parse("(" * 10 + chain * 19 + "x" + ")" * 10)
        self.check_problem("(" * 11 + chain * 19 + "x" + ")" * 11, 11 + len(chain) * 18 + len("if ") + 1)

    def test_mixed_levels(self):
        opening, closing = "-(not -", ")"
        # A "-" is one level, its parenthesis the next, and so on.
        parse(opening * 7 + "-x" + closing * 7)
        self.check_problem_at_mark(opening * 7 + "--@x" + closing * 7)
        self.check_problem_at_mark(opening * 7 + "-(@x)" + closing * 7)
        parse("not " * 10 + "-" * 19 + "x")
        self.check_problem_at_mark("not " * 10 + "-" * 20 + "@x")
        self.check_problem_at_mark("(" * 29 + "not @x" + ")" * 29)
        self.check_problem_at_mark("(" * 29 + "-@x" + ")" * 29)
        self.check_problem_at_mark("(" * 29 + "(@x)" + ")" * 29)

    def test_operators_between_operands_add_no_level(self):
        parse("(" * 29 + "x + y * z - x = y and x or z" + ")" * 29)
        parse("x" + " + y" * 59)
        self.check_problem_at_mark("(" * 29 + "x + y * -@z" + ")" * 29)
        self.check_problem_at_mark("(" * 29 + "x and not @y" + ")" * 29)

    def test_a_level_ends_with_its_expression(self):
        deep = "(" * 29 + "x" + ")" * 29
        parse(f"{deep} + {deep}")
        parse("not x and " + deep)
        parse("-x + " + deep)
        self.check_problem_at_mark("not " + "(" * 29 + "@x" + ")" * 29)
        self.check_problem_at_mark("-" + "(" * 29 + "@x" + ")" * 29)
        self.check_problem_at_mark("not x + " + "(" * 29 + "@x" + ")" * 29)

    def test_the_first_token_of_the_level_may_be_any(self):
        self.check_problem_at_mark("(" * 30 + "@")
        self.check_problem_at_mark("(" * 30 + "@)")
        self.check_problem_at_mark("(" * 30 + "@a")
        self.check_problem_at_mark("-" * 30 + "@")
        self.check_problem_at_mark("not " * 30 + "@and")
        self.check_problem_at_mark("(" * 30 + "@((")


GRAMMAR = {
    "start": (("expr",),),
    "expr": (("if", "expr", "then", "expr", "else", "expr"), ("or",)),
    "or": (("or", "'or'", "and"), ("and",)),
    "and": (("and", "'and'", "not"), ("not",)),
    "not": (("'not'", "not"), ("comparison",)),
    "comparison": (("sum", "'='", "sum"), ("sum",)),
    "sum": (("sum", "'-'", "product"), ("product",)),
    "product": (("product", "'*'", "factor"), ("factor",)),
    "factor": (("'-'", "factor"), ("'x'",), ("'('", "expr", "')'"), ("'min'", "'('", "expr", "','", "expr", "')'")),
}
TOKENS = ("if", "then", "else", "or", "and", "not", "=", "-", "*", "x", "(", ")", "min", ",")


def symbol_of(part):
    """A part of a rule as (whether it is a token, its name)."""
    if part in ("if", "then", "else"):
        return True, part
    if part.startswith("'"):
        return True, part.strip("'")
    return False, part


RULES = [(left, tuple(symbol_of(part) for part in right)) for left, rights in GRAMMAR.items() for right in rights]


def completed(items, earlier):
    """Earley's prediction and completion; items are (rule, dot, origin)."""
    todo, found = list(items), set(items)
    while todo:
        rule, dot, origin = todo.pop()
        left, right = RULES[rule]
        new = []
        if dot == len(right):
            for other, place, first in (found if origin == len(earlier) else earlier[origin]):
                if place < len(RULES[other][1]) and RULES[other][1][place] == (False, left):
                    new.append((other, place + 1, first))
        elif not right[dot][0]:
            new = [(at, 0, len(earlier)) for at, row in enumerate(RULES) if row[0] == right[dot][1]]
        for item in new:
            if item not in found:
                found.add(item)
                todo.append(item)
    return found


def shifted(chart, token):
    """The items behind one more token; none if no expression goes on with it."""
    moved = []
    for rule, dot, origin in chart[-1]:
        if dot < len(RULES[rule][1]) and RULES[rule][1][dot] == (True, token):
            moved.append((rule, dot + 1, origin))
    return completed(moved, chart) if moved else set()


class ExhaustiveTest(ExpressionTest):
    """Every short row of tokens, against an Earley recognizer of point 9's grammar."""

    def explore(self, chart, tokens, most):
        done = any(origin == 0 and RULES[rule][0] == "start" and dot == 1 for rule, dot, origin in chart[-1])
        text = " ".join(tokens)
        if done:
            parse(text)
        else:
            self.check_place(text, len(text) + 1)
        self.rows += 1
        for token in TOKENS:
            longer = tokens + [token]
            items = shifted(chart, token)
            if not items:
                self.check_place(" ".join(longer + ["x"]), len(" ".join(longer)) - len(token) + 1)
            elif len(longer) <= most:
                self.explore(chart + [items], longer, most)

    def check_place(self, text, column):
        try:
            parse(text)
        except SyntaxProblem as problem:
            if (problem.line, problem.column) != (1, column):
                self.fail(f"{text!r}: column {problem.column} instead of {column}")
        else:
            self.fail(f"{text!r} is parsed")

    def test_short_rows(self):
        self.rows = 0
        start = completed([(at, 0, 0) for at, row in enumerate(RULES) if row[0] == "start"], [])
        self.explore([start], [], 6)
        self.assertGreater(self.rows, 10000)

    def test_the_tree_is_that_of_pythons_operators(self):
        """Without "if", Python ranks the same signs in the same order."""
        signs = ("or", "and", "=", "<", "+", "-", "*", "mod")
        for first, second, third in itertools.product(signs, repeat=3):
            for before in ("", "not ", "-", "not -", "--"):
                for text in (f"{before}x {first} y {second} z {third} 1", f"x {first} {before}y {second} z", f"x {first} y {second} {before}(z {third} 1)"):
                    try:
                        form = parse(text)
                    except SyntaxProblem:
                        form = None
                    self.assertEqual(form, python_form(text), text)


PYTHON_SIGNS = {ast.Add: "+", ast.Sub: "-", ast.Mult: "*", ast.Mod: "mod", ast.Eq: "=", ast.Lt: "<", ast.Or: "or", ast.And: "and",
                ast.Not: "not", ast.USub: "neg"}


def python_form(text):
    """The parsed form that Python's own parser gives, None for what point 9 refuses."""
    try:
        return converted(ast.parse(text.replace("=", "==").replace("mod", "%"), mode="eval").body)
    except (SyntaxError, OverflowError):
        return None


def converted(node):
    if isinstance(node, ast.Name):
        return ("name", node.id)
    if isinstance(node, ast.Constant):
        return ("int", node.value)
    if isinstance(node, ast.UnaryOp):
        return (PYTHON_SIGNS[type(node.op)], converted(node.operand))
    if isinstance(node, ast.BinOp):
        return (PYTHON_SIGNS[type(node.op)], converted(node.left), converted(node.right))
    if isinstance(node, ast.BoolOp):
        form = converted(node.values[0])
        for value in node.values[1:]:
            form = (PYTHON_SIGNS[type(node.op)], form, converted(value))
        return form
    if len(node.ops) > 1:
        raise OverflowError("two comparisons in a row")
    return (PYTHON_SIGNS[type(node.ops[0])], converted(node.left), converted(node.comparators[0]))


if __name__ == "__main__":
    unittest.main()
