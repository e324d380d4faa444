"""Point 23: sessions, against a model that follows the definition."""

import copy
import random
import time as clock
import unittest

from limitrun.errors import (
    Incompatible, LimitRunError, NoBreakpoint, NoMark, NotLater, NotReached, NoVariable, OutOfRange, SyntaxProblem,
)
from limitrun.machine import is_halted, start_state, successor
from limitrun.ordinals import add, compare, is_ordinal, power, subtract
from limitrun.session import Session
from limitrun.syntax import evaluate, format_program, names_of, parse_expression, parse_program
from limitrun.tower import Tower
from reference import BLINK, CLIMB, CLIMB_AND_HALT, COUNTER, FIXED, Counting, Definition, random_text, random_text_over, random_time

LARGEST = 10 ** 18 - 1
SET_1 = "var x 0..1 = 0 limit set 1\nx := 1 - x"
STILL = "var x 0..3 = 0 limit low"
UP = "var x 0..3 = 0 limit low\nx := x + 1"
ODD_OBJECTS = (True, False, None, "", "0", "x", (), [], {}, (0,), [0], {0: 0}, {"x": [1, (None, True)]}, -1, -10 ** 30, 10 ** 30)
NO_EXPRESSIONS = ("", " ", "x +", "1 2", "nothere", "(x", "x = x = x", "not", "X", "x # 1", "x\n", "007", "1234567", "x :=", "\t")
# A number of levels that no height of a small program exceeds.
HIGH = 12


def values_of(program, state):
    return dict(zip(names_of(program), state))


def seen(session, marks=4, stops=3):
    """All that a session tells of its time, state, program, history, breakpoints and marks."""
    told = [session.time(), session.state(), session.program(), session.history(), session.halting_time()]
    told.append([session.state_at(time) for time, reason in session.history()])
    other = copy.deepcopy(session)
    many = other.mark()
    told.append(many)
    for number in range(many)[-marks:]:
        other = copy.deepcopy(session)
        told.append((other.back(number), other.time(), other.program(), other.history(), other.mark()))
    other = copy.deepcopy(session)
    for turn in range(stops):
        told.append((other.continue_run(), other.time(), other.state()))
    new = other.add_breakpoint("0")
    told.append(new)
    for number in range(new + 1):
        try:
            told.append(other.remove_breakpoint(number))
        except NoBreakpoint:
            told.append("none")
    return told


class Model:
    """A session by the words of point 23; times are found by none of its methods, but checked."""

    definitions = {}

    def __init__(self, text):
        program = parse_program(text)
        self.now = ()
        self.segments = [((), start_state(program), program, "start")]
        self.breakpoints = {}
        self.number = 0
        self.marks = []

    def definition(self, program):
        return self.definitions.setdefault(program, Definition(program))

    def program(self):
        return self.segments[-1][2]

    def state_at(self, time):
        begin, state, program, reason = [segment for segment in self.segments if compare(segment[0], time) <= 0][-1]
        return self.definition(program).at(state, subtract(time, begin))

    def state(self):
        return self.state_at(self.now)

    def begin(self, state, program, reason):
        if self.segments[-1][0] == self.now:
            self.segments[-1] = (self.now, state, program, f"{self.segments[-1][3]}; {reason}")
        else:
            self.segments.append((self.now, state, program, reason))

    def set(self, name, value):
        at = names_of(self.program()).index(name)
        state = self.state()
        self.begin(state[:at] + (value,) + state[at + 1:], self.program(), f"set {name} {value}")

    def history(self):
        return [(segment[0], segment[3]) for segment in self.segments]

    def mark(self):
        self.marks.append((self.now, list(self.segments)))
        return len(self.marks) - 1

    def back(self, number):
        self.now, segments = self.marks[number]
        self.segments = list(segments)
        del self.marks[number + 1:]


class Player(unittest.TestCase):
    """Makes random calls of a session and of a model."""

    def start(self, choose, text):
        self.choose = choose
        self.session = Session(text)
        self.model = Model(text)

    def refused(self, error, call, *rest):
        """The call raises the error itself, and nothing has changed."""
        before = seen(self.session)
        with self.assertRaises(error) as caught:
            call(*rest)
        self.assertIs(type(caught.exception), error)
        self.assertIsInstance(caught.exception, LimitRunError)
        self.assertEqual(seen(self.session), before)
        return caught.exception

    def compare_all(self):
        self.assertEqual(self.session.time(), self.model.now)
        self.assertEqual(self.session.state(), self.model.state())
        self.assertEqual(self.session.program(), self.model.program())
        self.assertEqual(self.session.history(), self.model.history())

    def random_condition(self):
        names = names_of(self.model.program())
        name, other = self.choose.choice(names), self.choose.choice(names)
        value = self.choose.randint(-1, 4)
        return self.choose.choice([name, f"{name} = {value}", f"{name} = {value} and {other} != {value}", f"{name} + {other} > {value}", "0", "1",
                                   f"not {name}", f"{name} - {name}", f"{name} * {other} - {value}", f"if {name} < {other} then 0 else 2"])

    def holds(self, text):
        program = self.model.program()
        expression = parse_expression(text, names_of(program))
        return lambda state: evaluate(expression, values_of(program, state)) != 0

    def check_least(self, state, wait, holds):
        """The wait is the least one from the state after which it holds, or None."""
        walk = self.model.definition(self.model.program())
        if wait is None:
            self.assertFalse([other for other in walk.visited(state, HIGH) if holds(other)])
            return
        self.assertTrue(is_ordinal(wait))
        self.assertTrue(holds(walk.at(state, wait)))
        self.assertFalse([other for other in walk.before(state, wait) if holds(other)])

    def wait_until(self, time):
        return None if time is None else subtract(time, self.model.now)

    def play_run_to(self):
        amount = self.choose.choice([(), (1,), (2,), (1, 0), (1, 1), (1, 0, 0), random_time(self.choose, 3, 3)])
        time = self.choose.choice([add(self.model.now, amount)] * 3 + [random_time(self.choose, 3, 5)])
        if compare(time, self.model.now) < 0:
            self.refused(NotLater, self.session.run_to, time)
        else:
            self.model.now = time
            self.assertEqual(self.session.run_to(time), self.model.state())

    def play_advance(self):
        amount = self.choose.choice([(), (1,), (1,), (2,), (5,), (1, 0), (2, 1), (1, 0, 0), random_time(self.choose, 3, 3)])
        self.model.now = add(self.model.now, amount)
        self.assertEqual(self.session.advance(amount), self.model.state())

    def play_state_at(self):
        times = [random_time(self.choose, 3, 4), self.model.now, add(self.model.now, (1,))]
        for begin, state, program, reason in self.model.segments:
            times += [begin, add(begin, (1,)), add(begin, random_time(self.choose, 2, 2))]
        for time in times:
            if compare(time, self.model.now) > 0:
                with self.assertRaises(NotReached):
                    self.session.state_at(time)
            else:
                self.assertEqual(self.session.state_at(time), self.model.state_at(time))

    def play_set_value(self):
        name, low, high = self.choose.choice(self.model.program()[0])[:3]
        value = self.choose.randint(low, high)
        self.model.set(name, value)
        self.assertEqual(self.session.set_value(name, value), self.model.state())

    def play_wrong_value(self):
        name, low, high = self.choose.choice(self.model.program()[0])[:3]
        wrong = [other for other in ODD_OBJECTS if type(other) is not int or not low <= other <= high]
        value = self.choose.choice([low - 1, high + 1, self.choose.choice(wrong)])
        error = self.refused(NoVariable, self.session.set_value, self.choose.choice(["", "nothere", name + " ", name.upper()]),
                             self.choose.choice([value, low]))
        self.assertIsInstance(error.name, str)
        self.refused(OutOfRange, self.session.set_value, name, value)

    def play_replace(self):
        names = names_of(self.model.program())
        text = random_text_over(self.choose, names, [variable[1:3] for variable in self.model.program()[0]])
        try:
            program = parse_program(text)
        except SyntaxProblem:
            return
        self.model.begin(self.model.state(), program, "program")
        self.assertIsNone(self.session.replace_program(text))

    def play_wrong_program(self):
        self.refused(SyntaxProblem, self.session.replace_program, self.choose.choice(["", "x", "var", "halt 1", "var a 0..1 = 0 limit low\na := b"]))
        name, low, high, start, rule = self.model.program()[0][0]
        others = [f"var {name}z {low}..{high} = {low} limit low", f"var {name} {low}..{high + 1} = {low} limit low",
                  f"var {name} {low - 1}..{high} = {low} limit low",
                  "var zz 0..0 = 0 limit low\n" + format_program(self.model.program())]
        for text in others:
            self.refused(Incompatible, self.session.replace_program, text)

    def play_questions(self):
        text, amount = self.random_condition(), self.choose.choice([(), (1,), (1, 0), (1, 0, 0), random_time(self.choose, 4, 4)])
        before = seen(self.session)
        state, definition, holds = self.model.state(), self.model.definition(self.model.program()), self.holds(text)
        self.check_least(state, self.wait_until(self.session.next_time(text)), holds)
        self.check_least(state, self.wait_until(self.session.halting_time()), lambda other: is_halted(self.model.program(), other))
        self.assertEqual(self.session.count_times(text, amount), Counting(definition, holds).before(state, amount))
        for wrong in self.choose.sample(NO_EXPRESSIONS, 2):
            for call in (self.session.next_time, lambda given: self.session.count_times(given, amount), self.session.add_breakpoint):
                with self.assertRaises(SyntaxProblem) as caught:
                    call(wrong)
                self.assertEqual(caught.exception.line, 1)
        self.assertEqual(seen(self.session), before)

    def play_add_breakpoint(self):
        text = self.random_condition()
        self.assertEqual(self.session.add_breakpoint(text), self.model.number)
        self.model.breakpoints[self.model.number] = text
        self.model.number += 1

    def play_remove_breakpoint(self):
        for number in [self.model.number,
                       self.choose.choice(ODD_OBJECTS)] + [number for number in range(self.model.number) if number not in self.model.breakpoints][:2]:
            if type(number) is not int or number not in self.model.breakpoints:
                self.refused(NoBreakpoint, self.session.remove_breakpoint, number)
        if len(self.model.breakpoints) > 1:
            number = self.choose.choice(sorted(self.model.breakpoints))
            self.assertIsNone(self.session.remove_breakpoint(number))
            del self.model.breakpoints[number]

    def play_continue(self):
        before = self.model.now
        conditions = {number: self.holds(text) for number, text in self.model.breakpoints.items()}
        state = successor(self.model.program(), self.model.state())

        def anywhere(other):
            return any(holds(other) for holds in conditions.values())

        same = seen(self.session)
        numbers = self.session.continue_run()
        self.assertIs(type(numbers), list)
        if not numbers:
            self.assertEqual(seen(self.session), same)
            self.check_least(state, None, anywhere)
            return
        self.model.now = self.session.time()
        self.assertGreater(compare(self.model.now, before), 0)
        self.check_least(state, subtract(self.model.now, add(before, (1,))), anywhere)
        self.assertEqual(numbers, [number for number in sorted(conditions) if conditions[number](self.model.state())])

    def play_mark(self):
        self.assertEqual(self.session.mark(), self.model.mark())

    def play_back(self):
        for number in (len(self.model.marks), len(self.model.marks) + 1, self.choose.choice(ODD_OBJECTS), self.choose.choice(ODD_OBJECTS)):
            self.refused(NoMark, self.session.back, number)
        if self.model.marks:
            number = self.choose.randrange(len(self.model.marks))
            self.model.back(number)
            self.assertEqual(self.session.back(number), self.model.state())

    PLAYS = ([play_run_to] * 3 + [play_advance] * 3 + [play_state_at] * 3 + [play_set_value] * 3 + [play_wrong_value] + [play_replace] * 2 + [play_wrong_program]
             + [play_questions] * 2 + [play_add_breakpoint] * 2 + [play_remove_breakpoint] + [play_continue] * 3 + [play_mark] * 2 + [play_back])

    def play(self, calls):
        for turn in range(calls):
            self.choose.choice(self.PLAYS)(self)
            self.compare_all()


class RandomTest(Player):
    def test_random_calls(self):
        for seed in range(60):
            choose = random.Random(f"session {seed}")
            text = choose.choice(FIXED[:8] + (random_text(choose),) * 8)
            try:
                parse_program(text)
            except SyntaxProblem:
                continue
            with self.subTest(seed=seed):
                self.start(choose, text)
                self.compare_all()
                self.play(60)
        Model.definitions.clear()


class ExampleTest(unittest.TestCase):
    def test_set_value(self):
        session = Session(SET_1)
        self.assertEqual([session.run_to((1, 0)), session.set_value("x", 0), session.advance((1,)), session.state_at((1, 0)), session.history()],
                         [(1,), (0,), (1,), (0,), [((), "start"), ((1, 0), "set x 0")]])

    def test_breakpoint(self):
        session = Session(SET_1)
        self.assertEqual([session.add_breakpoint("x = 1"), session.continue_run(), session.time(), session.count_times("x = 1", (2, 0))],
                         [0, [0], (1,), (2, 0)])


class StartTest(unittest.TestCase):
    def test_programs(self):
        for text in FIXED:
            session, program = Session(text), parse_program(text)
            self.assertEqual([session.time(), session.state(), session.program(), session.history()], [(), start_state(program), program, [((), "start")]])

    def test_no_program(self):
        for text, line, column in (("", 2, 1), ("var x 0..1 = 2 limit low", 1, 14), ("halt 1", 2, 1), (SET_1 + "\nx := 1", 3, 1), ("#", 2, 1)):
            with self.assertRaises(SyntaxProblem) as caught:
                Session(text)
            self.assertEqual((caught.exception.line, caught.exception.column), (line, column))

    def test_two_sessions(self):
        one, other = Session(UP), Session(UP)
        one.advance((2,))
        one.set_value("x", 1)
        one.add_breakpoint("x")
        one.mark()
        self.assertEqual([other.time(), other.state(), other.history(), other.add_breakpoint("x"), other.mark()], [(), (0,), [((), "start")], 0, 0])


class TimeTest(unittest.TestCase):
    def test_run_to(self):
        session = Session(UP)
        for time, state in (((), (0,)), ((), (0,)), ((2,), (2,)), ((2,), (2,)), ((1, 0), (3,)), ((1, 0), (3,)), ((1, 0, 5), (3,))):
            self.assertEqual(session.run_to(time), state)
            self.assertEqual([session.time(), session.state()], [time, state])
        for time in ((), (5,), (LARGEST, LARGEST), (1, 0, 4)):
            with self.assertRaises(NotLater):
                session.run_to(time)
            self.assertEqual(session.time(), (1, 0, 5))
        self.assertEqual(session.history(), [((), "start")])

    def test_advance(self):
        session = Session(BLINK)
        for amount, time in (((), ()), ((1,), (1,)), ((), (1,)), ((1, 0), (1, 0)), ((3,), (1, 3)), ((2, 1), (3, 1)), ((1, 0, 0), (1, 0, 0)),
                             ((4, 0), (1, 4, 0))):
            session.advance(amount)
            self.assertEqual(session.time(), time)
        self.assertEqual(session.state(), (0,))
        self.assertEqual(session.advance((1,)), (1,))

    def test_large_times(self):
        for text in FIXED + (CLIMB, CLIMB_AND_HALT):
            program = parse_program(text)
            tower, session = Tower(program), Session(text)
            total = ()
            for amount in ((LARGEST,), (LARGEST, LARGEST), (1,), (1,) + (0,) * 63, (LARGEST,) * 64, (3,), (LARGEST,) * 64, (7,)):
                total = add(total, amount)
                self.assertEqual(session.advance(amount), tower.state_at(start_state(program), total))
                self.assertEqual([session.time(), session.state_at(total), session.state_at((5,))],
                                 [total, session.state(), tower.state_at(start_state(program), (5,))])

    def test_state_at(self):
        session = Session(UP)
        session.run_to((1, 3))
        session.set_value("x", 0)
        session.run_to((1, 5))
        session.replace_program(STILL)
        session.run_to((2, 2))
        times = ((), (1,), (3,), (9,), (1, 0), (1, 2), (1, 3), (1, 4), (1, 5), (1, 6), (2, 0), (2, 2))
        self.assertEqual([session.state_at(time)[0] for time in times], [0, 1, 3, 3, 3, 3, 0, 1, 2, 2, 2, 2])
        for time in ((2, 3), (3, 0), (1, 0, 0), (LARGEST,) * 64):
            with self.assertRaises(NotReached):
                session.state_at(time)
        self.assertEqual([session.time(), session.state()], [(2, 2), (2,)])

    def test_a_limit_behind_a_segment(self):
        # Before w*2 only the states behind the change are kept: not the ones before it.
        session = Session("var x 0..3 = 2 limit low\nx := if x < 2 then 1 - x else x")
        session.run_to((1, 5))
        self.assertEqual(session.set_value("x", 1), (1,))
        self.assertEqual(session.run_to((2, 0)), (0,))
        self.assertEqual([session.state_at(time)[0] for time in ((1, 4), (1, 5), (1, 6), (2, 0))], [2, 1, 0, 0])


class SegmentTest(unittest.TestCase):
    def test_replaced_segments(self):
        session = Session(UP)
        self.assertEqual(session.set_value("x", 2), (2,))
        self.assertEqual(session.history(), [((), "start; set x 2")])
        session.replace_program(STILL)
        session.set_value("x", 2)
        self.assertEqual(session.history(), [((), "start; set x 2; program; set x 2")])
        self.assertEqual([session.state_at(()), session.run_to((4,))], [(2,), (2,)])
        session.set_value("x", 1)
        session.run_to((4,))
        session.set_value("x", 0)
        self.assertEqual(session.history(), [((), "start; set x 2; program; set x 2"), ((4,), "set x 1; set x 0")])
        self.assertEqual([session.state_at(time)[0] for time in ((), (3,), (4,))], [2, 2, 0])
        session.advance((1, 0))
        session.replace_program(UP)
        self.assertEqual(session.history()[2:], [((1, 0), "program")])
        self.assertEqual(session.advance((2,)), (2,))
        self.assertEqual(session.state_at((9,)), (0,))

    def test_the_first_segment_is_replaced(self):
        session = Session(UP)
        session.replace_program("var x 0..3 = 3 limit high\nx := 3 - x")
        # The state stays: the start value of the new program makes no difference.
        self.assertEqual([session.state(), session.advance((1,)), session.run_to((1, 0))], [(0,), (3,), (3,)])
        self.assertEqual(session.history(), [((), "start; program")])

    def test_a_value_that_it_has(self):
        session = Session(UP)
        session.run_to((1,))
        self.assertEqual(session.set_value("x", 1), (1,))
        self.assertEqual(session.history(), [((), "start"), ((1,), "set x 1")])

    def test_negative_values(self):
        session = Session("var a -3..-1 = -2 limit low\nvar b 0..1 = 0 limit low")
        self.assertEqual(session.set_value("a", -3), (-3, 0))
        self.assertEqual(session.set_value("b", 1), (-3, 1))
        self.assertEqual(session.history(), [((), "start; set a -3; set b 1")])

    def test_a_halted_state_goes_on(self):
        session = Session("var x 0..3 = 0 limit set 0\nhalt x = 2\nx := x + 1")
        self.assertEqual([session.run_to((2, 0)), session.halting_time(), session.set_value("x", 3), session.halting_time()], [(2,), (2, 0), (3,), (3, 2)])
        self.assertEqual([session.advance((5,)), session.advance((1, 0)), session.advance((1, 0))], [(3,), (0,), (2,)])

    def test_wrong_values(self):
        session = Session("var x -1..2 = 0 limit low\nvar y 0..1 = 0 limit low")
        for value in ODD_OBJECTS + (-2, 3, 10 ** 40):
            if type(value) is int and -1 <= value <= 2:
                continue
            for name in ("", "z", "X", "x ", "xy", "limit"):
                with self.assertRaises(NoVariable) as caught:
                    session.set_value(name, value)
                self.assertEqual(caught.exception.name, name)
            with self.assertRaises(OutOfRange):
                session.set_value("x", value)
        for name, value in (("x", -2), ("x", 3), ("y", -1), ("y", 2), ("y", True), ("y", False), ("x", True), ("y", "1"), ("y", [1]), ("y", (1,)), ("y", None)):
            with self.assertRaises(OutOfRange):
                session.set_value(name, value)
        self.assertEqual([session.state(), session.history()], [(0, 0), [((), "start")]])
        for value in (-1, 2, 0):
            self.assertEqual(session.set_value("x", value), (value, 0))

    def test_programs_that_do_not_fit(self):
        text = "var x 0..3 = 0 limit low\nvar y 0..1 = 0 limit low\nx := x + 1"
        session = Session(text)
        session.run_to((2,))
        for wrong in ("var x 0..3 = 0 limit low", "var y 0..1 = 0 limit low\nvar x 0..3 = 0 limit low", text.replace("0..3", "0..4"),
                      text.replace("0..3", "-1..3"),
                      text.replace("0..1", "0..2"), text.replace("0..1", "0..0"), text.replace("y", "z"), text.replace("x", "y2"),
                      "var z 0..0 = 0 limit low\n" + text):
            with self.assertRaises(Incompatible):
                session.replace_program(wrong)
        for wrong, line in (("var z", 1), (text + "\nz := 1", 4), (text.replace("0..1", "0..4") + "\nx := ", 4), ("var z 0..1 = 0 limit low\nhalt", 2)):
            with self.assertRaises(SyntaxProblem) as caught:
                session.replace_program(wrong)
            self.assertEqual(caught.exception.line, line)
        self.assertEqual([session.time(), session.state(), session.program(), session.history()], [(2,), (2, 0), parse_program(text), [((), "start")]])
        for other in (text, text.replace("= 0 limit low", "= 1 limit set 1"), text + "\nhalt x", text + "\ny := 1 # more",
                      "\n" + text.replace("x := x + 1", "")):
            self.assertIsNone(session.replace_program(other))
            self.assertEqual([session.program(), session.state()], [parse_program(other), (2, 0)])

    def test_new_lists(self):
        session = Session(UP)
        session.run_to((1,))
        session.set_value("x", 0)
        session.mark()
        kept = session.history()
        self.assertEqual([type(kept), [type(entry) for entry in kept]], [list, [tuple, tuple]])
        session.history().clear()
        session.history().append("more")
        self.assertEqual(session.history(), kept)
        session.add_breakpoint("x = 1")
        found = session.continue_run()
        found.append(7)
        self.assertEqual(session.continue_run(), [])
        session.back(0)
        self.assertEqual([session.history(), session.continue_run()], [kept, [0]])


class QuestionTest(unittest.TestCase):
    def test_from_the_present_time_on(self):
        session = Session(COUNTER)
        self.assertEqual([session.next_time(f"n = {value}") for value in range(4)], [(), (1,), (1, 1), (2, 1)])
        self.assertEqual([session.halting_time(), session.count_times("x = 0", (5, 0))], [(2, 1), (3,)])
        session.run_to((1, 1))
        self.assertEqual([session.next_time(f"n = {value}") for value in range(4)], [None, None, (1, 1), (2, 1)])
        self.assertEqual([session.halting_time(), session.next_time("x = 0"), session.next_time("x")], [(2, 1), (2, 0), (1, 1)])
        self.assertEqual([session.count_times("n = 2", amount) for amount in ((), (1,), (9,), (1, 0), (1, 1), (4, 4), (1, 0, 0))],
                         [(), (1,), (9,), (1, 0), (1, 1), (1, 1), (1, 1)])
        session.run_to((2, 1))
        self.assertEqual([session.halting_time(), session.next_time("n = 3"), session.next_time("n = 2"), session.count_times("n", (3, 0, 2))],
                         [(2, 1), (2, 1), None, (3, 0, 2)])
        session.run_to((1, 0, 0, 7))
        self.assertEqual([session.halting_time(), session.next_time("1"), session.next_time("0")], [(1, 0, 0, 7), (1, 0, 0, 7), None])
        self.assertEqual(session.history(), [((), "start")])

    def test_behind_a_replaced_segment(self):
        session = Session(UP)
        session.run_to((1, 0))
        session.set_value("x", 1)
        session.set_value("x", 0)
        self.assertEqual([session.next_time(f"x = {value}") for value in range(4)], [(1, 0), (1, 1), (1, 2), (1, 3)])
        session.replace_program(STILL + "\nhalt x = 0")
        self.assertEqual([session.next_time(f"x = {value}") for value in range(4)], [(1, 0), None, None, None])
        self.assertEqual([session.halting_time(), session.count_times("not x", (1, 0, 0, 1))], [(1, 0), (1, 0, 0, 1)])
        session.set_value("x", 3)
        self.assertEqual([session.halting_time(), session.count_times("not x", (1, 0, 0, 1)), session.next_time("x = 0")], [None, (), None])

    def test_large_amounts(self):
        session = Session(BLINK)
        self.assertEqual(session.count_times("x = 0", (LARGEST,)), ((LARGEST + 1) // 2,))
        self.assertEqual(session.count_times("x", (LARGEST,)), (LARGEST // 2,))
        self.assertEqual(session.count_times("x", (LARGEST,) * 64), (LARGEST,) * 63 + (LARGEST // 2,))
        session.run_to((LARGEST,) * 64)
        self.assertEqual([session.next_time("x"), session.next_time("not x")], [(LARGEST,) * 64, (LARGEST,) * 63 + (LARGEST + 1,)])

    def test_values_below_0(self):
        session = Session("var x -2..1 = -2 limit low\nx := x + 1")
        self.assertEqual([session.next_time("x"), session.next_time("x + 2"), session.next_time("x > 0"), session.count_times("x", (3,)),
                          session.count_times("x", (5,))],
                         [(), (1,), (3,), (2,), (4,)])

    def test_no_expression(self):
        session = Session(SET_1)
        for text in NO_EXPRESSIONS:
            for call in (session.next_time, session.add_breakpoint, lambda given: session.count_times(given, (1,))):
                with self.assertRaises(SyntaxProblem) as caught:
                    call(text)
                with self.assertRaises(SyntaxProblem) as expected:
                    parse_expression(text, ["x"])
                self.assertEqual((caught.exception.line, caught.exception.column), (1, expected.exception.column))
        self.assertEqual(session.add_breakpoint("x"), 0)


class BreakpointTest(unittest.TestCase):
    def test_several_at_once(self):
        session = Session(UP)
        numbers = [session.add_breakpoint(text) for text in ("x = 3", "x = 1", "x > 1", "x", "0", "x = 1")]
        self.assertEqual(numbers, [0, 1, 2, 3, 4, 5])
        self.assertEqual([session.continue_run(), session.time()], [[1, 3, 5], (1,)])
        self.assertEqual([session.continue_run(), session.time()], [[2, 3], (2,)])
        self.assertIsNone(session.remove_breakpoint(3))
        self.assertEqual([session.continue_run(), session.time()], [[0, 2], (3,)])
        self.assertEqual([session.continue_run(), session.time()], [[0, 2], (4,)])
        session.remove_breakpoint(0)
        session.remove_breakpoint(2)
        self.assertEqual([session.continue_run(), session.time(), session.state()], [[], (4,), (3,)])
        self.assertEqual(session.add_breakpoint("x = 3"), 6)
        self.assertEqual([session.continue_run(), session.time(), session.history()], [[6], (5,), [((), "start")]])

    def test_strictly_later(self):
        session = Session(COUNTER)
        session.add_breakpoint("n = 0")
        self.assertEqual([session.continue_run(), session.time()], [[], ()])
        session.add_breakpoint("x = 0")
        self.assertEqual([session.continue_run(), session.time()], [[1], (1, 0)])
        self.assertEqual([session.continue_run(), session.time()], [[1], (2, 0)])
        self.assertEqual([session.continue_run(), session.time()], [[], (2, 0)])
        self.assertEqual([session.add_breakpoint("n = 3"), session.continue_run(), session.time()], [2, [2], (2, 1)])
        self.assertEqual([session.continue_run(), session.time()], [[2], (2, 2)])

    def test_far_away(self):
        session = Session(CLIMB_AND_HALT)
        session.add_breakpoint("n = 29 and x = 0")
        session.add_breakpoint("n = 17 and x = 0")
        session.add_breakpoint("n = 0 and x = 1")
        session.remove_breakpoint(2)
        self.assertEqual([session.continue_run(), session.time()], [[1], (1,) + (0,) * 17])
        session.remove_breakpoint(1)
        self.assertEqual([session.continue_run(), session.time()], [[0], (1,) + (0,) * 29])
        self.assertEqual([session.continue_run(), session.time()], [[0], (1,) + (0,) * 28 + (1,)])

    def test_no_breakpoint(self):
        session = Session(UP)
        for number in ODD_OBJECTS + (0, 1, 7):
            with self.assertRaises(NoBreakpoint):
                session.remove_breakpoint(number)
        for text in ("x = 1", "x = 2", "x = 3"):
            session.add_breakpoint(text)
        session.remove_breakpoint(1)
        for number in ODD_OBJECTS + (1, 3, -2, -3):
            with self.assertRaises(NoBreakpoint):
                session.remove_breakpoint(number)
        self.assertEqual([session.continue_run(), session.time(), session.continue_run(), session.time()], [[0], (1,), [2], (3,)])
        session.remove_breakpoint(0)
        session.remove_breakpoint(2)
        for number in (0, 1, 2):
            with self.assertRaises(NoBreakpoint):
                session.remove_breakpoint(number)
        self.assertEqual([session.continue_run(), session.add_breakpoint("1")], [[], 3])

    def test_other_programs(self):
        session = Session(UP)
        session.add_breakpoint("x = 3")
        session.replace_program(STILL)
        self.assertEqual([session.continue_run(), session.time()], [[], ()])
        session.replace_program("var x 0..3 = 0 limit set 3\nx := 0")
        self.assertEqual([session.continue_run(), session.time(), session.history()], [[0], (1, 0), [((), "start; program; program")]])


class MarkTest(unittest.TestCase):
    def test_back(self):
        session = Session(UP)
        self.assertEqual(session.mark(), 0)
        session.run_to((2,))
        self.assertEqual(session.mark(), 1)
        session.set_value("x", 0)
        session.replace_program(STILL)
        self.assertEqual([session.mark(), session.history()], [2, [((), "start"), ((2,), "set x 0; program")]])
        session.run_to((1, 0))
        session.set_value("x", 1)
        self.assertEqual(session.mark(), 3)
        self.assertEqual(session.back(2), (0,))
        self.assertEqual([session.time(), session.program(), session.history()], [(2,), parse_program(STILL), [((), "start"), ((2,), "set x 0; program")]])
        with self.assertRaises(NoMark):
            session.back(3)
        self.assertEqual(session.run_to((1, 0)), (0,))
        self.assertEqual(session.mark(), 3)
        self.assertEqual(session.back(1), (2,))
        self.assertEqual([session.time(), session.program(), session.history(), session.state_at((1,))], [(2,), parse_program(UP), [((), "start")], (1,)])
        with self.assertRaises(NoMark):
            session.back(2)
        self.assertEqual([session.back(1), session.back(0), session.time(), session.state()], [(2,), (0,), (), (0,)])
        self.assertEqual([session.mark(), session.mark(), session.back(0), session.mark()], [1, 2, (0,), 1])

    def test_a_mark_keeps_its_history(self):
        session = Session(STILL)
        session.run_to((1,))
        session.set_value("x", 1)
        session.mark()
        # These replace the segment of the mark's present time.
        session.set_value("x", 2)
        session.set_value("x", 3)
        self.assertEqual(session.history(), [((), "start"), ((1,), "set x 1; set x 2; set x 3")])
        for turn in range(3):
            self.assertEqual([session.back(0), session.history()], [(1,), [((), "start"), ((1,), "set x 1")]])
            session.set_value("x", 0)
            session.run_to((5,))
            session.set_value("x", 2)

    def test_back_and_forth(self):
        session = Session(UP)
        session.run_to((3,))
        session.mark()
        session.run_to((1, 0))
        self.assertEqual([session.back(0), session.time()], [(3,), (3,)])
        with self.assertRaises(NotReached):
            session.state_at((4,))
        with self.assertRaises(NotLater):
            session.run_to((2,))
        self.assertEqual(session.run_to((4,)), (3,))

    def test_breakpoints_stay(self):
        session = Session(UP)
        self.assertEqual([session.add_breakpoint("x = 1"), session.add_breakpoint("x = 2"), session.mark()], [0, 1, 0])
        session.remove_breakpoint(0)
        self.assertEqual([session.add_breakpoint("x = 3"), session.continue_run()], [2, [1]])
        self.assertEqual([session.back(0), session.time()], [(0,), ()])
        self.assertEqual([session.add_breakpoint("x = 2"), session.continue_run(), session.time()], [3, [1, 3], (2,)])
        with self.assertRaises(NoBreakpoint):
            session.remove_breakpoint(0)
        session.remove_breakpoint(1)
        session.back(0)
        self.assertEqual([session.continue_run(), session.continue_run(), session.add_breakpoint("1")], [[3], [2], 4])

    def test_no_mark(self):
        session = Session(UP)
        for number in ODD_OBJECTS + (0, 1):
            with self.assertRaises(NoMark):
                session.back(number)
        session.mark()
        session.advance((1,))
        session.mark()
        for number in ODD_OBJECTS + (2, 3, -2):
            with self.assertRaises(NoMark):
                session.back(number)
        self.assertEqual([session.time(), session.back(1), session.back(0)], [(1,), (1,), (0,)])


class SpeedTest(unittest.TestCase):
    def test_a_hundred_calls(self):
        begin = clock.perf_counter()
        text = CLIMB_AND_HALT
        session = Session(text)
        for turn in range(30):
            session.add_breakpoint(f"n = {turn} and x = {turn % 2}")
        for turn in range(30):
            session.continue_run()
            session.mark()
            session.next_time(f"n = {turn}")
            session.count_times("x", (turn + 1,) * 30)
            session.set_value("n", turn)
            session.replace_program(text if turn % 2 else text.replace("high", "keep 3"))
            session.halting_time()
            session.advance(power(turn))
        for turn in reversed(range(30)):
            session.back(turn)
        self.assertLess(clock.perf_counter() - begin, 20)

    def test_long_histories(self):
        begin = clock.perf_counter()
        session = Session("var x 0..59 = 0 limit low\nx := if x < 58 then x + 1 else 0")
        for turn in range(100):
            session.advance((1, 1))
            session.set_value("x", turn % 60)
            session.mark()
        self.assertEqual([session.state_at((turn, 1))[0] for turn in range(1, 101)], [(turn - 1) % 60 for turn in range(1, 101)])
        self.assertEqual([session.state_at((turn, 3))[0] for turn in range(1, 50)], [turn + 1 for turn in range(1, 50)])
        self.assertEqual([session.back(50), len(session.history())], [(50,), 52])
        self.assertLess(clock.perf_counter() - begin, 20)


if __name__ == "__main__":
    unittest.main()
