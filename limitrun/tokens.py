"""The tokens of a line, and the reader that hands them out in order."""

from limitrun.errors import SyntaxProblem

LETTERS = "abcdefghijklmnopqrstuvwxyz"
DIGITS = "0123456789"
WORDS = ("var", "limit", "low", "high", "keep", "set", "halt", "not", "and", "or",
         "mod", "if", "then", "else", "min", "max")
SYMBOLS = ("..", ":=", "!=", "<=", ">=", "+", "-", "*", "=", "<", ">", "(", ")", ",")
MOST_TOKENS = 120
LONGEST_NAME = 8
LONGEST_NUMBER = 6


def run_at(text, start, characters):
    """Return the longest run of these characters that begins at start."""
    end = start
    while end < len(text) and text[end] in characters:
        end += 1
    return text[start:end]


def name_at(text, start):
    """Return the kind and the text of the name or word at start."""
    name = run_at(text, start, LETTERS + DIGITS)
    if name in WORDS:
        return "word", name
    return ("name" if len(name) <= LONGEST_NAME else "problem"), name


def number_at(text, start):
    """Return the kind and the text of the number at start."""
    number = run_at(text, start, DIGITS)
    if len(number) > LONGEST_NUMBER or (len(number) > 1 and number[0] == "0"):
        return "problem", number
    return "number", number


def symbol_at(text, start):
    """Return the kind and the text of the symbol at start, the longest one first."""
    for size in (2, 1):
        symbol = text[start:start + size]
        if symbol in SYMBOLS:
            return "symbol", symbol
    return "problem", text[start]


def token_at(text, start):
    """Return the kind and the text of the token at start."""
    if text[start] in LETTERS:
        return name_at(text, start)
    if text[start] in DIGITS:
        return number_at(text, start)
    return symbol_at(text, start)


def read_tokens(text, line):
    """Return the list of (kind, text, column) of a line, its end included."""
    tokens = []
    start = 0
    while start < len(text):
        if text[start] == " ":
            start += 1
            continue
        kind, token = token_at(text, start)
        if kind == "problem" or len(tokens) == MOST_TOKENS:
            raise SyntaxProblem(line, start + 1)
        tokens.append((kind, token, start + 1))
        start += len(token)
    tokens.append(("end", "", len(text) + 1))
    return tokens


class LineReader:
    """Hands out the tokens of a line, in which some names are declared."""

    def __init__(self, text, line, names):
        self.tokens = read_tokens(text, line)
        self.line = line
        self.names = list(names)
        self.place = 0

    def peek(self):
        """Return the text of the next token."""
        return self.tokens[self.place][1]

    def peek_kind(self):
        """Return the kind of the next token."""
        return self.tokens[self.place][0]

    def take(self):
        """Return the text of the next token, and go on behind it."""
        text = self.peek()
        self.place += 1
        return text

    def expect(self, text):
        """Go on behind the next token, which must have this text."""
        if self.peek() != text:
            self.refuse(self.place)
        self.place += 1

    def expect_end(self):
        """Refuse a token that stands where the line must end."""
        if self.peek_kind() != "end":
            self.refuse(self.place)

    def refuse(self, place):
        """Report the token at this place as the first problem."""
        raise SyntaxProblem(self.line, self.tokens[place][2])
