"""Programs and expressions: their texts, their parsed forms and their values."""

from limitrun.drafts import ProgramDraft
from limitrun.errors import SyntaxProblem
from limitrun.grammar import COMPARISON_RANK, NEGATIVE_RANK, NOT_RANK, PAIR_RANKS, read_whole_expression
from limitrun.tokens import LineReader

MOST_LINES = 40


def parse_program(text):
    """Return the parsed form of a program."""
    draft = ProgramDraft()
    lines = text.split("\n")
    for line, content in enumerate(lines, start=1):
        if line > MOST_LINES:
            raise SyntaxProblem(line, 1)
        draft.read_line(content.partition("#")[0], line)
    if not draft.variables:
        raise SyntaxProblem(len(lines) + 1, 1)
    return draft.parsed()


def parse_expression(text, names):
    """Return the parsed form of an expression over these names."""
    return read_whole_expression(LineReader(text, 1, names))


def names_of(program):
    """Return the list of the names of the variables, in order."""
    return [variable[0] for variable in program[0]]


def evaluate(expression, values):
    """Return the value of an expression for a dict from names to integers."""
    kind = expression[0]
    if kind == "int":
        return expression[1]
    if kind == "name":
        return values[expression[1]]
    first = evaluate(expression[1], values)
    if kind == "if":
        return evaluate(expression[2] if first != 0 else expression[3], values)
    if kind == "not":
        return int(first == 0)
    if kind == "neg":
        return -first
    second = evaluate(expression[2], values)
    if PAIR_RANKS.get(kind, NEGATIVE_RANK) <= COMPARISON_RANK:
        return int(holds(kind, first, second))
    return calculate(kind, first, second)


def holds(sign, first, second):
    """Return whether a connection or a comparison of two values holds."""
    if sign == "or":
        return first != 0 or second != 0
    if sign == "and":
        return first != 0 and second != 0
    if sign == "=":
        return first == second
    if sign == "!=":
        return first != second
    if sign == "<":
        return first < second
    if sign == "<=":
        return first <= second
    if sign == ">":
        return first > second
    return first >= second


def calculate(sign, first, second):
    """Return the result of an arithmetic operation on two values."""
    if sign == "+":
        return first + second
    if sign == "-":
        return first - second
    if sign == "*":
        return first * second
    if sign == "min":
        return min(first, second)
    if sign == "max":
        return max(first, second)
    return first % second if second != 0 else 0


def format_expression(expression):
    """Return the canonical text of an expression."""
    kind = expression[0]
    if kind == "int":
        return str(expression[1])
    if kind == "name":
        return expression[1]
    if kind == "not":
        return f"not {format_operand(expression[1], NOT_RANK)}"
    if kind == "neg":
        return f"-{format_operand(expression[1], NEGATIVE_RANK)}"
    if kind in PAIR_RANKS:
        return format_pair(expression)
    first = format_expression(expression[1])
    second = format_expression(expression[2])
    if kind == "if":
        return f"if {first} then {second} else {format_expression(expression[3])}"
    return f"{kind}({first}, {second})"


def format_pair(expression):
    """Return the canonical text of an operation with two operands."""
    sign = expression[0]
    rank = PAIR_RANKS[sign]
    # All pairs associate to the left, but comparisons do not associate at all.
    left = format_operand(expression[1], rank + 1 if rank == COMPARISON_RANK else rank)
    right = format_operand(expression[2], rank + 1)
    return f"{left} {sign} {right}"


def format_operand(expression, loosest):
    """Return the text of an operand, in parentheses if it binds looser than loosest."""
    text = format_expression(expression)
    return text if rank_of(expression) >= loosest else f"({text})"


def rank_of(expression):
    """Return how tightly the outermost operator of an expression binds."""
    kind = expression[0]
    if kind == "if":
        return 0
    if kind == "not":
        return NOT_RANK
    return PAIR_RANKS.get(kind, NEGATIVE_RANK)


def format_program(program):
    """Return the canonical text of a program."""
    lines = [format_variable(variable) for variable in program[0]]
    if program[1] is not None:
        lines.append(f"halt {format_expression(program[1])}")
    for name, expression in program[2]:
        lines.append(f"{name} := {format_expression(expression)}")
    return "\n".join(lines)


def format_variable(variable):
    """Return the canonical text of a declaration."""
    name, low, high, start, rule = variable
    words = " ".join([str(part) for part in rule])
    return f"var {name} {low}..{high} = {start} limit {words}"
