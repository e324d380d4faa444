"""The console: a session that is led by lines of text."""

from limitrun.errors import InvalidCommand, InvalidOrdinal
from limitrun.ordinals import format_ordinal, parse_ordinal
from limitrun.session import Session
from limitrun.syntax import names_of

DIGITS = "0123456789"
LONGEST_NUMBER = 6


def read_time(text):
    """Return the ordinal that an argument stands for."""
    try:
        return parse_ordinal(text)
    except InvalidOrdinal:
        raise InvalidCommand("a time is due here") from None


def read_number(text):
    """Return the integer that an argument stands for."""
    digits = text[1:] if text.startswith("-") else text
    if not 1 <= len(digits) <= LONGEST_NUMBER:
        raise InvalidCommand("a number has 1 to 6 digits")
    for character in digits:
        if character not in DIGITS:
            raise InvalidCommand("a number has digits only")
    # Leading zeros and "-0" are not written like the number that they stand for.
    if str(int(text)) != text:
        raise InvalidCommand("a number has no leading zero")
    return int(text)


def read_program(text):
    """Return the text of a program for an argument."""
    return text.replace(" | ", "\n")


def read_parts(text, separator):
    """Return both parts of an argument, parted by the first separator."""
    first, found, second = text.partition(separator)
    if found == "":
        raise InvalidCommand("an argument is missing")
    return first, second


def told_state(session, state):
    """Return the text of a state."""
    names = names_of(session.program())
    return " ".join([f"{name}={value}" for name, value in zip(names, state)])


def told_time(time):
    """Return the text of a time, or never for None."""
    return "never" if time is None else format_ordinal(time)


def do_state(session):
    """Answer state."""
    return told_state(session, session.state())


def do_time(session):
    """Answer time."""
    return told_time(session.time())


def do_halts(session):
    """Answer halts."""
    return told_time(session.halting_time())


def do_continue(session):
    """Run continue."""
    numbers = session.continue_run()
    if not numbers:
        return "never"
    together = " ".join([str(number) for number in numbers])
    return f"{told_time(session.time())}: {together}"


def do_mark(session):
    """Run mark."""
    return str(session.mark())


def do_history(session):
    """Answer history."""
    return "; ".join([f"{told_time(time)} {reason}" for time, reason in session.history()])


def do_run(session, argument):
    """Run run."""
    return told_state(session, session.run_to(read_time(argument)))


def do_advance(session, argument):
    """Run advance."""
    return told_state(session, session.advance(read_time(argument)))


def do_at(session, argument):
    """Answer at."""
    return told_state(session, session.state_at(read_time(argument)))


def do_set(session, argument):
    """Run set."""
    name, number = read_parts(argument, " ")
    return told_state(session, session.set_value(name, read_number(number)))


def do_replace(session, argument):
    """Run replace."""
    session.replace_program(read_program(argument))
    return "ok"


def do_next(session, argument):
    """Answer next."""
    return told_time(session.next_time(argument))


def do_count(session, argument):
    """Answer count."""
    time, expression = read_parts(argument, " : ")
    return told_time(session.count_times(expression, read_time(time)))


def do_break(session, argument):
    """Run break."""
    return str(session.add_breakpoint(argument))


def do_unbreak(session, argument):
    """Run unbreak."""
    session.remove_breakpoint(read_number(argument))
    return "ok"


def do_back(session, argument):
    """Run back."""
    return told_state(session, session.back(read_number(argument)))


# The commands that are a word alone, and those that are a word and an argument.
PLAIN_COMMANDS = {
    "state": do_state, "time": do_time, "halts": do_halts, "continue": do_continue, "mark": do_mark,
    "history": do_history,
}
ARGUMENT_COMMANDS = {
    "run": do_run, "advance": do_advance, "at": do_at, "set": do_set, "replace": do_replace, "next": do_next,
    "count": do_count, "break": do_break, "unbreak": do_unbreak, "back": do_back,
}


class Console:
    """Runs commands on the session that was loaded last."""

    def __init__(self):
        self.session = None

    def execute(self, line):
        """Run one command and return its answer."""
        word, space, argument = line.partition(" ")
        if word == "load" and space == " ":
            self.session = Session(read_program(argument))
            return "ok"
        if self.session is None:
            raise InvalidCommand("no program is loaded")
        if space == "" and word in PLAIN_COMMANDS:
            plain = PLAIN_COMMANDS[word]
            return plain(self.session)
        if space == " " and word in ARGUMENT_COMMANDS:
            action = ARGUMENT_COMMANDS[word]
            return action(self.session, argument)
        raise InvalidCommand("the line is no command")
