"""The grammar of expressions."""

MOST_LEVELS = 30
LOOSEST_RANK = 1
NOT_RANK = 3
COMPARISON_RANK = 4
NEGATIVE_RANK = 7
# The operators between two operands; a higher rank binds tighter.
PAIR_RANKS = {
    "or": 1, "and": 2,
    "=": 4, "!=": 4, "<": 4, "<=": 4, ">": 4, ">=": 4,
    "+": 5, "-": 5, "*": 6, "mod": 6,
}


def check_level(reader, level):
    """Refuse the next token if an expression of this level begins with it."""
    if level > MOST_LEVELS:
        reader.refuse(reader.place)


def read_whole_expression(reader):
    """Read an expression that ends with the line."""
    expression = read_expression(reader, 1)
    reader.expect_end()
    return expression


def read_expression(reader, level):
    """Read an expression of any form."""
    check_level(reader, level)
    if reader.peek() != "if":
        return read_operation(reader, LOOSEST_RANK, level)
    reader.take()
    test = read_expression(reader, level + 1)
    reader.expect("then")
    chosen = read_expression(reader, level + 1)
    reader.expect("else")
    return ("if", test, chosen, read_expression(reader, level + 1))


def read_operation(reader, loosest, level):
    """Read operands as long as operators of the rank loosest or tighter join them."""
    if reader.peek() == "not" and loosest <= NOT_RANK:
        left = read_not(reader, level)
        tightest = NOT_RANK
    else:
        left = read_factor(reader, level)
        tightest = NEGATIVE_RANK
    while loosest <= PAIR_RANKS.get(reader.peek(), 0) <= tightest:
        sign = reader.take()
        rank = PAIR_RANKS[sign]
        left = (sign, left, read_operation(reader, rank + 1, level))
        # A comparison is no operand of a comparison without parentheses.
        tightest = rank - 1 if rank == COMPARISON_RANK else rank
    return left


def read_not(reader, level):
    """Read a not and its operand, a comparison or another not."""
    reader.take()
    check_level(reader, level + 1)
    return ("not", read_operation(reader, NOT_RANK, level + 1))


def read_factor(reader, level):
    """Read an operand that contains no operator between two operands."""
    if reader.peek() != "-":
        return read_atom(reader, level)
    reader.take()
    check_level(reader, level + 1)
    return ("neg", read_factor(reader, level + 1))


def read_atom(reader, level):
    """Read a number, a name, a call or an expression in parentheses."""
    if reader.peek_kind() == "number":
        return ("int", int(reader.take()))
    if reader.peek_kind() == "name":
        return read_name(reader)
    if reader.peek() in ("min", "max"):
        return read_call(reader, level)
    reader.expect("(")
    inner = read_expression(reader, level + 1)
    reader.expect(")")
    return inner


def read_name(reader):
    """Read the name of a declared variable."""
    if reader.peek() not in reader.names:
        reader.refuse(reader.place)
    return ("name", reader.take())


def read_call(reader, level):
    """Read a call of min or max."""
    name = reader.take()
    reader.expect("(")
    first = read_expression(reader, level + 1)
    reader.expect(",")
    second = read_expression(reader, level + 1)
    reader.expect(")")
    return (name, first, second)
