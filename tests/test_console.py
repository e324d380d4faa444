"""The console: each command and its answer, word by word, and each line that is no command."""

import copy
import random
import time as clock
import unittest

from limitrun.console import Console
from limitrun.errors import (
    Incompatible, InvalidCommand, LimitRunError, NoBreakpoint, NoMark, NotLater, NotReached, NoVariable, OutOfRange, SyntaxProblem,
)
from limitrun.ordinals import format_ordinal
from limitrun.session import Session
from limitrun.syntax import names_of, parse_program
from reference import CLIMB_AND_HALT, COUNTER, FIXED, random_text, random_time

LOAD = "load var x 0..3 = 0 limit low | var y -2..2 = 0 limit high | x := x + 1 | y := if y = 2 then -2 else y + 1"
PLAIN = ("state", "time", "halts", "continue", "mark", "history")
WITH_TIME = ("run", "advance", "at")
WITH_NUMBER = ("unbreak", "back")
ARGUMENTS = {
    "run": "w", "advance": "w", "at": "0", "set": "x 1", "replace": LOAD[5:], "next": "x", "count": "w : x", "break": "x", "unbreak": "0", "back": "0",
}
NO_TIMES = (
    "", " ", "00", "01", "-1", "+1", "1 ", " 1", "1.", "x", "W", "w ", " w", "w*1", "w*0", "w^1", "w^0", "w^1*2", "w^2*1", "w^02", "w*02", "0 + 1", "w + 0",
    "1 + w", "w + w", "w^2 + w^2", "w + w^2", "w+1", "w  + 1", "w + 1 ", "w +1", "w * 2", "w^ 2", "w^2 *3", "w^64", "w^64*2 + 1", "w^100",
    "1000000000000000000", "w*1000000000000000000", "w^3*1000000000000000000 + 5", "1\n", "w\t", "(1, 0)", "()", "w^w", "w^-1", "w - 1", "w + ", " + w", "1 2",
)
NO_NUMBERS = (
    "", " ", "-", "-0", "+0", "+1", "00", "01", "-01", "007", "1234567", "-1234567", "0000001", "1.0", "1 ", " 1", "1 0", "1\n", "\t1", "x", "one", "--1", "1-",
    "1_0", "1e3", "0x1", "10 ", "w", "1,0", "- 1", "True", "None", "999999999999999999",
)


def told(console):
    """All that a console tells of its session."""
    name = console.execute("state").split("=")[0]
    lines = [console.execute(line) for line in ("state", "time", "history", "halts", "at 0", f"next {name}", f"count w^2 : {name}")]
    other = copy.deepcopy(console)
    lines.append(other.execute("mark"))
    for number in range(int(lines[-1])):
        other = copy.deepcopy(console)
        lines += [other.execute(line) for line in (f"back {number}", "time", "history")]
    other = copy.deepcopy(console)
    lines += [other.execute(line) for line in ("continue", "time", "continue", "time", "break 0")]
    return lines


class ConsoleTest(unittest.TestCase):
    def setUp(self):
        self.console = Console()

    def ask(self, *lines):
        return [self.console.execute(line) for line in lines]

    def refused(self, error, line):
        """The line raises the error itself, and nothing has changed."""
        before = told(self.console) if self.console.session else None
        with self.assertRaises(error) as caught:
            self.console.execute(line)
        self.assertIs(type(caught.exception), error, line)
        self.assertIsInstance(caught.exception, LimitRunError)
        self.assertEqual(told(self.console) if self.console.session else None, before)
        return caught.exception


class AnswerTest(ConsoleTest):
    def test_example(self):
        self.assertEqual(self.ask("load var x 0..1 = 0 limit set 1 | x := 1 - x", "run w + 1", "at w", "next x = 1"), ["ok", "x=0", "x=1", "w + 2"])

    def test_each_command(self):
        self.assertEqual(self.ask(LOAD, "state", "time", "history"), ["ok", "x=0 y=0", "0", "0 start"])
        self.assertEqual(self.ask("run 0", "run 2", "time", "advance 0", "advance 1", "time", "at 1", "at 3", "at 0"),
                         ["x=0 y=0", "x=2 y=2", "2", "x=2 y=2", "x=3 y=-2", "3", "x=1 y=1", "x=3 y=-2", "x=0 y=0"])
        self.assertEqual(self.ask("run w", "set y -2", "set x 0", "history"), ["x=3 y=2", "x=3 y=-2", "x=0 y=-2", "0 start; w set y -2; set x 0"])
        self.assertEqual(self.ask("next x = 3", "next x = 4", "next y = 0 - 2", "count w : x = 3", "count 5 : x = 3", "count 0 : 1", "count w^2*3 + w : y = 1"),
                         ["w + 3", "never", "w", "w", "2", "0", "w^2*3 + w"])
        self.assertEqual(self.ask("halts", "replace " + LOAD[5:] + " | halt x = 2", "halts", "run w + 2", "halts", "run w*2", "halts", "next 1"),
                         ["never", "ok", "w + 2", "x=2 y=0", "w + 2", "x=2 y=0", "w*2", "w*2"])
        self.assertEqual(self.ask("history"), ["0 start; w set y -2; set x 0; program"])

    def test_breakpoints(self):
        self.assertEqual(self.ask(LOAD, "continue", "break x = 3", "break y = 1", "break x = 3 and y = -2", "break 0"), ["ok", "never", "0", "1", "2", "3"])
        self.assertEqual(self.ask("continue", "state", "time", "continue", "continue"), ["1: 1", "x=1 y=1", "1", "3: 0 2", "4: 0"])
        self.assertEqual(self.ask("unbreak 0", "continue", "unbreak 2", "unbreak 1", "continue", "time", "break x < 3 or y = 2", "continue"),
                         ["ok", "6: 1", "ok", "ok", "never", "6", "4", "7: 4"])
        self.assertEqual(self.ask("unbreak 4", "break y = 2", "run w", "set x 0", "continue", "continue", "history"),
                         ["ok", "5", "x=3 y=2", "x=0 y=2", "w + 5: 5", "w + 10: 5", "0 start; w set x 0"])

    def test_continue_at_large_times(self):
        self.assertEqual(self.ask("load " + CLIMB_AND_HALT.replace("\n", " | "), "break n = 12 and x = 0", "continue", "state", "halts", "break 1",
                                  "continue", "continue"),
                         ["ok", "0", "w^12: 0", "n=12 x=0", "w^29", "1", "w^12 + 1: 1", "w^12 + 2: 1"])

    def test_marks(self):
        self.assertEqual(self.ask(LOAD, "mark", "run 1", "mark", "set y -1", "mark", "run w*2 + 1", "history"),
                         ["ok", "0", "x=1 y=1", "1", "x=1 y=-1", "2", "x=3 y=-2", "0 start; 1 set y -1"])
        self.assertEqual(self.ask("back 2", "time", "back 1", "history", "mark", "back 0", "time", "mark"),
                         ["x=1 y=-1", "1", "x=1 y=1", "0 start", "2", "x=0 y=0", "0", "1"])

    def test_states(self):
        for load, state in (("load var a 7..7 = 7 limit low", "a=7"), ("load var b -9..-9 = -9 limit low | var abcdefgh 0..0 = 0 limit low", "b=-9 abcdefgh=0"),
                            ("load var c 0..1 = 0 limit low | var a 0..1 = 1 limit low | var b -1..1 = -1 limit low", "c=0 a=1 b=-1")):
            self.assertEqual(self.ask(load, "state", "run w^63*999999999999999999 + 1", "advance 0", "at w",
                                      "set " + state.split()[0].replace("=", " "), "mark", "back 0"),
                             ["ok"] + [state] * 5 + ["0", state])

    def test_times(self):
        texts = ("0", "1", "10", "999999999999999999", "w", "w + 1", "w*2", "w*2 + 10", "w^2", "w^2 + w + 1", "w^2*3 + 5", "w^10*10", "w^63",
                 "w^63*999999999999999999 + w^2 + 1")
        for text in texts:
            self.assertEqual(self.ask(LOAD, "run " + text, "time")[2], text)
            self.assertEqual(self.ask(LOAD, "advance " + text, "time")[2], text)
            self.assertEqual(self.ask(LOAD, f"count {text} : 1")[1], text)
            self.assertEqual(self.ask(LOAD, "run w^63*999999999999999999 + w^2*2", "at " + text)[2], self.ask(LOAD, "run " + text)[1])
        # An answer may exceed the bounds of arguments.
        self.assertEqual(self.ask(LOAD, "run w^63*999999999999999999", "advance w^63", "time", "halts", "next 1", "history"),
                         ["ok", "x=3 y=2", "x=3 y=2", "w^63*1000000000000000000", "never", "w^63*1000000000000000000", "0 start"])

    def test_numbers(self):
        self.ask("load var x -59..0 = 0 limit low")
        for value in (0, -1, -9, -10, -59):
            self.assertEqual(self.ask(f"set x {value}"), [f"x={value}"])
        for value in (1, 9, 10, 60, 100000, 999999, -60, -100000, -999999):
            self.refused(OutOfRange, f"set x {value}")
        self.ask("load var x 999990..999999 = 999990 limit low")
        self.assertEqual(self.ask("set x 999999", "state"), ["x=999999", "x=999999"])

    def test_texts_of_programs(self):
        for text in FIXED:
            self.assertEqual(self.ask("load " + text.replace("\n", " | ")), ["ok"])
            self.assertEqual(self.console.session.program(), parse_program(text))
            self.assertEqual(self.ask("load " + text, "replace " + text.replace("\n", " | "), "replace " + text), ["ok"] * 3)
        self.assertEqual(self.ask("load  | # a comment | var x 0..1 = 0 limit low # x |  | # more | x := 1 # 2", "run 1"), ["ok", "x=1"])
        self.assertEqual(self.ask("load   var   x  0 .. 1 = 1 limit low   | ", "state"), ["ok", "x=1"])
        self.assertEqual(self.ask("load var x 0..1 = 0 limit low # a|b |c| d | x := 1", "run 1"), ["ok", "x=1"])

    def test_expressions(self):
        self.ask(LOAD)
        self.assertEqual(self.ask("next  x = 1 ", "next (x)", "count w :  x = 1  ", "count w : if x = 0 then 1 else 0", "break  x  ", "next 1"),
                         ["1", "1", "1", "1", "0", "0"])


class WrongLineTest(ConsoleTest):
    def test_before_a_load(self):
        lines = list(PLAIN) + [f"{word} {argument}" for word, argument in ARGUMENTS.items()]
        lines += ["", " ", "load", "Load x", "set y 1", "run", "run 1 + w", "replace x", "next", "count", "nothing", " load var x 0..1 = 0 limit low",
                  "back 7", "unbreak x"]
        for line in lines:
            self.refused(InvalidCommand, line)
        for line in ("load ", "load x", "load var x 0..1 = 2 limit low"):
            self.refused(SyntaxProblem, line)
        for line in lines:
            self.refused(InvalidCommand, line)
        self.assertEqual(self.ask(LOAD, "state"), ["ok", "x=0 y=0"])

    def test_no_command(self):
        self.ask(LOAD, "break x", "mark")
        for line in ("", " ", "  ", "\n", "\t", "#", "help", "quit", "stat", "states", "stop", "load", "load\n", "load\t" + LOAD[5:], " " + LOAD,
                     "go", "x", "x := 1", "0", "w", "breaks x",
                     "state;time", "state\n", "\nstate", "time\t", "var x 0..1 = 0 limit low", "run_to w", "state_at w", "halting_time",
                     "execute state", "session", "ok", "never"):
            self.refused(InvalidCommand, line)

    def test_plain_commands(self):
        self.ask(LOAD, "break x", "mark")
        for word in PLAIN:
            for line in (word + " ", " " + word, word + "  ", word + " 0", word + " w", word + " x", word + " " + word, word.upper(),
                         word.capitalize(), word + "\n", word + "s", word[:-1]):
                self.refused(InvalidCommand, line)

    def test_commands_with_an_argument(self):
        self.ask(LOAD, "break x", "mark")
        for word, argument in ARGUMENTS.items():
            self.ask(f"{word} {argument}", LOAD, "break x", "mark")
            for line in (word, " " + word, f" {word} {argument}", word + "\t" + argument, word + "\n" + argument, word + argument,
                         f"{word.upper()} {argument}", f"{word.capitalize()} {argument}",
                         f"{word[:-1]} {argument}", f"{word}s {argument}", f"{word}: {argument}"):
                self.refused(InvalidCommand, line)
        for word in ("LOAD", "Load", " load", "loa", "loads", "load:"):
            self.refused(InvalidCommand, word + LOAD[4:])

    def test_times(self):
        self.ask(LOAD, "run w^2")
        for text in NO_TIMES:
            for line in [f"{word} {text}" for word in WITH_TIME] + [f"count {text} : x"]:
                self.refused(InvalidCommand, line)
        for word in WITH_TIME:
            for line in (f"{word}  w^3", f"{word} w^3 ", f"{word} w^3 w", f"{word} w^3 : x"):
                self.refused(InvalidCommand, line)

    def test_numbers(self):
        self.ask(LOAD, "break x", "mark")
        for text in NO_NUMBERS:
            for line in [f"{word} {text}" for word in WITH_NUMBER] + [f"set x {text}", f"set nothere {text}"]:
                self.refused(InvalidCommand, line)
        for text in ("-1", "-999999", "999999", "100000", "1", "10"):
            self.refused(NoBreakpoint, "unbreak " + text)
            self.refused(NoMark, "back " + text)
            self.refused(NoVariable, "set z " + text)

    def test_set(self):
        self.ask(LOAD)
        for line in ("set", "set ", "set x", "set x ", "set  x 1", "set x  1", "set x 1 ", "set x 1 0", "set x=1", "set x = 1", "set x:1", "set 1",
                     "set x y", "set x 1 y 2", "set x -"):
            self.refused(InvalidCommand, line)
        for line, name in (("set z 1", "z"), ("set  1", ""), ("set X 1", "X"), ("set xy 0", "xy"), ("set 1 1", "1"), ("set x, 1", "x,"),
                           ("set x\n 1", "x\n"), ("set if 999999", "if")):
            self.assertEqual(self.refused(NoVariable, line).name, name)
        for line in ("set x 4", "set x -1", "set y 3", "set y -3", "set x 999999"):
            self.refused(OutOfRange, line)
        self.assertEqual(self.ask("set x 3", "set y -2"), ["x=3 y=0", "x=3 y=-2"])

    def test_the_documents_examples(self):
        self.ask("load var x 0..1 = 0 limit set 1 | x := 1 - x")
        self.refused(InvalidCommand, "set x 1 0")
        self.refused(NoVariable, "set y 1")

    def test_count(self):
        self.ask(LOAD)
        for line in ("count", "count ", "count w", "count w ", "count w :", "count w: x", "count w :x", "count w x", "count : x", "count  : x",
                     "count w  : x", "count x : w", "count w + : x",
                     "count x", "count  w : x", "count w ; x", "count w\n: x"):
            self.refused(InvalidCommand, line)
        for line, column in (("count w : ", 1), ("count w :  ", 2), ("count w : z", 1), ("count w : x : y", 3), ("count w : : x", 1),
                             ("count w : 1 2", 3), ("count w : x +", 4)):
            self.assertEqual(self.refused(SyntaxProblem, line).column, column)
        # The first " : " parts the time from the expression: the line is no command, whatever the expression is.
        self.refused(InvalidCommand, "count 01 : x +")


class SessionErrorTest(ConsoleTest):
    def test_what_the_session_raises(self):
        self.ask(LOAD, "break x = 3", "mark", "run w", "set x 1")
        for line, error in (
            ("run 5", NotLater), ("run 0", NotLater), ("at w + 1", NotReached), ("at w^63", NotReached), ("set z 1", NoVariable),
            ("set x 9", OutOfRange), ("replace x", SyntaxProblem),
            ("replace ", SyntaxProblem), ("replace var x 0..3 = 0 limit low", Incompatible), ("next ", SyntaxProblem), ("next z", SyntaxProblem),
            ("count w : z", SyntaxProblem),
            ("break ", SyntaxProblem), ("break x x", SyntaxProblem), ("unbreak 1", NoBreakpoint), ("unbreak -1", NoBreakpoint), ("back 1", NoMark),
            ("back -1", NoMark), ("load ", SyntaxProblem),
        ):
            self.refused(error, line)
        self.assertEqual(self.ask("time", "state", "history", "break 1", "mark"), ["w", "x=1 y=2", "0 start; w set x 1", "1", "1"])

    def test_places_of_problems(self):
        for line, row, column in (("load ", 2, 1), ("load x", 1, 1), ("load var x 0..1 = 2 limit low", 1, 14), ("load var x 0..1 = 0 limit low | y := 1", 2, 1),
                                  ("load var x 0..1 = 0 limit low |  | x := 1 +", 3, 9), ("load var x 0..1 = 0 limit low|x := 1", 1, 25),
                                  ("load | ", 1, 1), ("load  | ", 3, 1),
                                  ("load # | #", 3, 1), ("load var x 0..1 = 0 limit low\n\n\nx", 4, 2)):
            caught = self.refused(SyntaxProblem, line)
            self.assertEqual((caught.line, caught.column), (row, column), line)
        self.ask(LOAD)
        for line, column in (("next ", 1), ("next x +", 4), ("next  z", 2), ("break x = x = x", 7), ("break x | y", 3), ("next x\n", 2)):
            self.assertEqual(self.refused(SyntaxProblem, line).column, column)

    def test_a_load_that_fails(self):
        self.ask(LOAD, "run w + 2", "mark", "break y = 2")
        for line in ("load ", "load x", "load var x 0..1 = 2 limit low", LOAD + " | x := 1", LOAD.replace("low", "lowest")):
            self.refused(SyntaxProblem, line)
        self.assertEqual(self.ask("time", "state", "break 1", "mark"), ["w + 2", "x=3 y=-1", "1", "1"])

    def test_a_new_session(self):
        self.ask(LOAD, "run w", "set x 0", "mark", "break x")
        self.assertEqual(self.ask(LOAD, "state", "time", "history", "continue", "break x", "mark"), ["ok", "x=0 y=0", "0", "0 start", "never", "0", "0"])
        other = Console()
        with self.assertRaises(InvalidCommand):
            other.execute("state")


class TwinTest(unittest.TestCase):
    """The console and a session that are asked the same."""

    def told_state(self, session, state):
        return " ".join(f"{name}={value}" for name, value in zip(names_of(session.program()), state))

    def told_time(self, time):
        return "never" if time is None else format_ordinal(time)

    def pairs(self, session, choose):
        """Some lines, each with the function that answers it."""
        names = names_of(session.program())
        name, value = choose.choice(names + ["nothere"]), choose.randint(-2, 4)
        text = choose.choice([f"{name} = {value}", f"{names[0]} > {value}", "1", "0", "x +"])
        time, number = random_time(choose, 3, 3), choose.randint(-1, 4)
        shown = format_ordinal(time)
        return [
            ("state", lambda: self.told_state(session, session.state())),
            ("time", lambda: format_ordinal(session.time())),
            (f"run {shown}", lambda: self.told_state(session, session.run_to(time))),
            (f"advance {shown}", lambda: self.told_state(session, session.advance(time))),
            (f"at {shown}", lambda: self.told_state(session, session.state_at(time))),
            (f"set {name} {value}", lambda: self.told_state(session, session.set_value(name, value))),
            (f"next {text}", lambda: self.told_time(session.next_time(text))),
            (f"count {shown} : {text}", lambda: self.told_time(session.count_times(text, time))),
            ("halts", lambda: self.told_time(session.halting_time())),
            (f"break {text}", lambda: str(session.add_breakpoint(text))),
            (f"unbreak {number}", lambda: session.remove_breakpoint(number) or "ok"),
            ("continue", lambda: self.told_continue(session)),
            ("mark", lambda: str(session.mark())),
            (f"back {number}", lambda: self.told_state(session, session.back(number))),
            ("history", lambda: "; ".join(f"{format_ordinal(begin)} {reason}" for begin, reason in session.history())),
        ]

    def told_continue(self, session):
        numbers = session.continue_run()
        return f"{format_ordinal(session.time())}: {' '.join(map(str, numbers))}" if numbers else "never"

    def answer(self, call, *rest):
        try:
            return call(*rest)
        except LimitRunError as error:
            return type(error), vars(error)

    def test_random_lines(self):
        for seed in range(40):
            choose = random.Random(f"console {seed}")
            text = choose.choice(FIXED + (random_text(choose), random_text(choose)))
            console = Console()
            try:
                session = Session(text)
            except SyntaxProblem:
                continue
            console.execute("load " + text.replace("\n", " | "))
            for turn in range(60):
                line, call = choose.choice(self.pairs(session, choose))
                self.assertEqual(self.answer(console.execute, line), self.answer(call), line)

    def test_a_hundred_lines(self):
        begin = clock.perf_counter()
        console = Console()
        console.execute("load " + CLIMB_AND_HALT.replace("\n", " | "))
        for turn in range(25):
            for line in (f"break n = {turn} and x = 0", "continue", f"count w^{turn + 2} : n = {turn}", f"set n {turn}", "mark"):
                self.assertIsInstance(console.execute(line), str)
        self.assertLess(clock.perf_counter() - begin, 20)


if __name__ == "__main__":
    unittest.main()
