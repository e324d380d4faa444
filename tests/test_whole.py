"""Point 3: what the parts of the program say together, and points 1 and 2 over all of them."""

import random
import re
import time as clock
import unittest

from limitrun.certificates import certify_halting, certify_state, check_certificate, check_halting
from limitrun.compare import run_difference, state_classes
from limitrun.console import Console
from limitrun.errors import NoEvent
from limitrun.events import count_events, next_event, nth_event, select, total_events
from limitrun.machine import all_states, limit_state, start_state, successor
from limitrun.operations import combine, concat, constant, map_values
from limitrun.ordinals import add, compare, format_ordinal, subtract
from limitrun.session import Session
from limitrun.syntax import format_expression, format_program, names_of, parse_expression, parse_program
from limitrun.tower import Tower
from limitrun.traces import drop, first_difference, is_trace, trace_of, value_at
from reference import BLINK, CLIMB, CLIMB_AND_HALT, COUNTER, FIXED, Definition, random_programs, random_time

PROGRAMS = [parse_program(text) for text in FIXED] + random_programs(random.Random(51), 60)
CLIMBING = [parse_program(CLIMB), parse_program(CLIMB_AND_HALT)]
LARGEST = 10 ** 18 - 1


def random_expression(choose, program):
    names = names_of(program)
    name, value = choose.choice(names), choose.randint(-1, 3)
    return parse_expression(choose.choice([f"{name} = {value}", f"{name} > {value}", name, f"{name} mod 2", f"{names[0]} - {names[-1]}", "1", "0"]), names)


def changed_session(choose, program):
    """A session with some segments, and the time, the state and the program with which the last one begins."""
    session = Session(format_program(program))
    begin, first = (), start_state(program)
    for turn in range(choose.randint(0, 4)):
        session.advance(choose.choice([(), (1,), (3,), (1, 0), (1, 1, 2), random_time(choose, 3, 3)]))
        if choose.random() < 0.7:
            name, low, high = choose.choice(program[0])[:3]
            begin, first = session.time(), session.set_value(name, choose.randint(low, high))
        else:
            rules = [("low",), ("high",), ("keep", program[0][0][1]), ("set", program[0][0][2])]
            program = ((program[0][0][:4] + (choose.choice(rules),),) + program[0][1:],) + program[1:]
            session.replace_program(format_program(program))
            begin, first = session.time(), session.state()
    return session, begin, first, program


class SameAnswerTest(unittest.TestCase):
    def cases(self, number):
        choose = random.Random(self.id())
        for turn in range(number):
            program = choose.choice(PROGRAMS + CLIMBING)
            yield (choose,) + changed_session(choose, program)

    def test_a_session_and_a_tower(self):
        for choose, session, begin, first, program in self.cases(150):
            tower = Tower(program)
            self.assertEqual(session.program(), program)
            self.assertEqual(session.state(), tower.state_at(first, subtract(session.time(), begin)))
            for amount in ((), (1,), (1, 0), random_time(choose, 3, LARGEST), random_time(choose, 12, 4)):
                time = add(session.time(), amount)
                self.assertEqual(session.run_to(time), tower.state_at(first, subtract(time, begin)))
                self.assertEqual(session.state_at(time), session.state())
                self.assertEqual(session.state_at(begin), first)

    def test_each_state_of_a_history(self):
        # At a segment's time its own state, at the next time its successor, and at limits the limit of what comes again before them.
        for choose, session, begin, first, program in self.cases(60):
            definition = Definition(program)
            self.assertEqual(session.state_at(begin), first)
            session.advance((1, 0, 0, 0))
            state = session.state_at(begin)
            self.assertEqual(session.state_at(add(begin, (1,))), successor(program, state))
            for level in (1, 2, 3):
                states = set()
                for turn in range(40, 100):
                    states |= definition.visited(session.state_at(add(begin, (turn,) + (0,) * (level - 1))), level - 1)
                    if len(all_states(program)) > 20:
                        break
                if len(all_states(program)) <= 20:
                    self.assertEqual(session.state_at(add(begin, (1,) + (0,) * level)), limit_state(program, sorted(states)))

    def test_a_certificate_and_a_session(self):
        for choose, session, begin, first, program in self.cases(100):
            tower = Tower(program)
            for amount in ((), (2,), (1, 0), (1, 0, 3), random_time(choose, 4, 5), random_time(choose, 4, LARGEST)):
                state = session.state()
                time, shown, visited = check_certificate(program, certify_state(tower, state, amount))
                self.assertEqual([time, shown], [amount, session.advance(amount)])

    def test_a_halting_report_and_a_session(self):
        found = []
        for choose, session, begin, first, program in self.cases(100):
            wait = check_halting(program, certify_halting(Tower(program), session.state()))
            self.assertEqual(session.halting_time(), None if wait is None else add(session.time(), wait))
            if program[1] is not None:
                self.assertEqual(session.halting_time(), session.next_time(format_expression(program[1])))
            found.append(wait)
        self.assertGreater(found.count(None), 10)
        self.assertGreater(len(found) - found.count(None), 10)

    def test_events_and_a_session(self):
        for choose, session, begin, first, program in self.cases(120):
            expression = random_expression(choose, program)
            text = format_expression(expression)
            trace = trace_of(Tower(program), session.state(), expression)
            values = tuple({value for value, jumps in trace if value != 0})
            wait = next_event(trace, values, ())
            self.assertEqual(session.next_time(text), None if wait is None else add(session.time(), wait))
            for amount in ((), (1,), (4,), (1, 0), (1, 0, 0), (2, 0, 3), random_time(choose, 4, 5), (LARGEST,) * 64):
                self.assertEqual(session.count_times(text, amount), count_events(trace, values, amount))

    def test_events_and_breakpoints(self):
        for choose, session, begin, first, program in self.cases(80):
            expression = random_expression(choose, program)
            session.add_breakpoint(format_expression(expression))
            trace, start = trace_of(Tower(program), session.state(), expression), session.time()
            values = tuple({value for value, jumps in trace if value != 0})
            # The events behind the present time, in order.
            index = count_events(trace, values, (1,))
            for turn in range(6):
                try:
                    event = nth_event(trace, values, add(index, (turn,) if turn else ()))
                except NoEvent:
                    self.assertEqual(session.continue_run(), [])
                    break
                self.assertEqual([session.continue_run(), session.time()], [[0], add(start, event)])

    def test_parts_of_a_trace(self):
        for choose, session, begin, first, program in self.cases(60):
            expression = random_expression(choose, program)
            trace = trace_of(Tower(program), first, expression)
            for amount in ((), (3,), (1, 1), random_time(choose, 4, 4)):
                state = Tower(program).state_at(first, amount)
                self.assertEqual(drop(trace, amount), trace_of(Tower(program), state, expression))
                self.assertEqual(value_at(trace, amount), trace_of(Tower(program), state, expression)[0][0])
            own = tuple({value for value, jumps in trace})
            self.assertEqual(select(trace, own, 0), trace)
            self.assertIsNone(total_events(trace, own))

    def test_a_console_and_a_session(self):
        for choose, session, begin, first, program in self.cases(40):
            console = Console()
            console.execute("load " + format_program(Session(format_program(program)).program()).replace("\n", " | "))
            for (name, low, high), value in zip([variable[:3] for variable in program[0]], session.state()):
                console.execute(f"set {name} {value}")
            text = format_expression(random_expression(choose, program))
            # The console's run begins at 0 with the session's present state.
            wait = console.execute(f"next {text}")
            shown = session.next_time(text)
            self.assertEqual(wait, "never" if shown is None else format_ordinal(subtract(shown, session.time())))
            amount = random_time(choose, 4, 5)
            self.assertEqual(console.execute(f"count {format_ordinal(amount)} : {text}"), format_ordinal(session.count_times(text, amount)))
            state = " ".join(f"{name}={value}" for name, value in zip(names_of(program), session.advance(amount)))
            self.assertEqual(console.execute(f"advance {format_ordinal(amount)}"), state)


class EqualTracesTest(unittest.TestCase):
    def check_equal(self, first, second, pairs):
        """Programs in whose runs these pairs of expressions have the same values at all times."""
        one, other = parse_program(first), parse_program(second)
        for left, right in pairs:
            tables = [trace_of(Tower(program), start_state(program), parse_expression(text, names_of(program))) for program,
                      text in ((one, left), (other, right))]
            self.assertEqual(tables[0], tables[1])
            self.assertIsNone(first_difference(tables[0], tables[1]))
            self.assertEqual(combine(tables[0], tables[1], "same"), constant(1))
            if left == right:
                self.assertIsNone(run_difference(one, other, parse_expression(left, names_of(one))))

    def test_unlike_programs(self):
        self.check_equal(BLINK, "var a 0..1 = 1 limit high\na := 1 - a", [("x", "1 - a"), ("x = 0", "a")])
        self.check_equal(BLINK, "var x 0..3 = 0 limit set 0\nvar z 0..0 = 0 limit low\nx := if x = 3 then 0 else x + 1",
                         [("x", "x mod 2"), ("5", "5"), ("x - x", "z")])
        self.check_equal(COUNTER, re.sub(r"\bn\b", "k", COUNTER) + "\n# more", [("n", "k"), ("x", "x"), ("n * 10 + x", "k * 10 + x")])
        self.check_equal(COUNTER, "var m 0..3 = 3 limit keep 3\nvar y 0..1 = 1 limit set 1\nhalt m = 0\ny := 0\nm := if y = 1 then m - 1 else m",
                         [("n", "3 - m"), ("x", "1 - y")])
        self.check_equal(CLIMB, CLIMB.replace("0..29", "0..9"), [("x", "x"), ("min(n, 9)", "n")])

    def test_turned_programs(self):
        # Each value v becomes -v: the same runs with low and high exchanged.
        choose = random.Random(52)
        turned_rules = {"low": "high", "high": "low", "keep": "keep", "set": "set"}

        def turned(expression, names):
            if expression[0] == "name":
                return ("neg", expression)
            return expression[:1] + tuple(turned(part, names) if isinstance(part, tuple) else part for part in expression[1:])

        for program in PROGRAMS:
            names = names_of(program)
            variables = tuple((name, -high, -low, -start, (turned_rules[rule[0]],) + tuple(-value for value in rule[1:])) for name, low, high, start,
                              rule in program[0])
            halt = None if program[1] is None else turned(program[1], names)
            other = variables, halt, tuple((name, ("neg", turned(expression, names))) for name, expression in program[2])
            for name in names:
                table = trace_of(Tower(program), start_state(program), ("name", name))
                opposite = trace_of(Tower(other), start_state(other), ("name", name))
                self.assertEqual(map_values(opposite, tuple((value, -value) for value in {row[0] for row in opposite})), table)
            expression = random_expression(choose, program)
            self.assertEqual(trace_of(Tower(other), start_state(other), turned(expression, names)), trace_of(Tower(program), start_state(program), expression))

    def test_equal_tables_or_a_least_time(self):
        choose = random.Random(53)
        same = 0
        for turn in range(300):
            programs = choose.choice(PROGRAMS), choose.choice(PROGRAMS)
            tables = [trace_of(Tower(program), choose.choice(all_states(program)), random_expression(choose, program)) for program in programs]
            time = first_difference(tables[0], tables[1])
            self.assertEqual(time is None, tables[0] == tables[1])
            same += time is None
            if time is not None:
                self.assertNotEqual(value_at(tables[0], time), value_at(tables[1], time))
                self.assertEqual(next_event(combine(tables[0], tables[1], "same"), (0,), ()), time)
                if sum(time) <= 50:
                    self.assertEqual(concat(tables[0], time, drop(tables[1], time)), tables[1])
        self.assertGreater(same, 10)

    def test_classes_of_states(self):
        choose = random.Random(54)
        for program in PROGRAMS:
            expression = random_expression(choose, program)
            classes = state_classes(program, expression)
            tower = Tower(program)
            numbers = {state: number for number, own in enumerate(classes) for state in own}
            states = all_states(program)
            for turn in range(10):
                one, other = choose.choice(states), choose.choice(states)
                self.assertEqual(trace_of(tower, one, expression) == trace_of(tower, other, expression), numbers[one] == numbers[other])


class NothingChangesTest(unittest.TestCase):
    def test_towers_and_sessions_beside_each_other(self):
        choose = random.Random(55)
        for program in choose.sample(PROGRAMS, 20):
            tower, text = Tower(program), format_program(program)
            session = Session(text)
            expression = random_expression(choose, program)

            def ask():
                return [tower.height(), tower.halting_time(start_state(program)), trace_of(tower, start_state(program), expression), session.time(),
                        session.state(), session.history(),
                        session.halting_time(), session.next_time(format_expression(expression)),
                        session.count_times(format_expression(expression), (2, 1)), state_classes(program, expression)]

            before = ask()
            other = Session(text)
            other.advance((1, 0, 3))
            other.set_value(program[0][0][0], program[0][0][1])
            other.add_breakpoint("1")
            other.continue_run()
            self.assertEqual(ask(), before)
            self.assertEqual(ask(), before)
            self.assertEqual(format_program(program), text)


class SpeedTest(unittest.TestCase):
    def test_large_programs(self):
        begin = clock.perf_counter()
        texts = [CLIMB, CLIMB_AND_HALT, "var x 0..59 = 0 limit low\nx := if x < 58 then x + 1 else 0",
                 "var x 0..59 = 0 limit keep 3\nx := (x * 7 + 11) mod 60\nhalt x = 3"]
        declared = [f"var v{place} 0..1 = 0 limit keep {place % 2}" for place in range(5)]
        assigned = [f"v{place} := v{(place + 1) % 5} + v{(place + 3) % 5} = 1" for place in range(5)]
        texts.append("\n".join(declared + assigned))
        for text in texts:
            program = parse_program(text)
            tower, name = Tower(program), names_of(program)[0]
            for state in all_states(program):
                trace = trace_of(tower, state, ("name", name))
                self.assertTrue(is_trace(trace))
                report = certify_halting(tower, state)
                self.assertEqual(check_halting(program, report), tower.halting_time(state))
            certificate = certify_state(tower, start_state(program), (LARGEST,) * 64)
            self.assertEqual(check_certificate(program, certificate)[1], tower.state_at(start_state(program), (LARGEST,) * 64))
            session = Session(text)
            session.advance((LARGEST,) * 64)
            self.assertEqual(session.state(), tower.state_at(start_state(program), (LARGEST,) * 64))
            self.assertGreaterEqual(compare(session.next_time("1"), session.time()), 0)
        self.assertLess(clock.perf_counter() - begin, 60)


if __name__ == "__main__":
    unittest.main()
