"""Comparisons of programs, of states and of limit rules."""

import random
import time as clock
import unittest

from limitrun.compare import rule_effects, run_difference, state_classes, with_rule
from limitrun.errors import LimitRunError, NoVariable, OutOfRange
from limitrun.machine import all_states, start_state
from limitrun.syntax import evaluate, format_program, names_of, parse_expression, parse_program
from limitrun.tower import Tower
from limitrun.traces import first_difference, trace_of
from reference import (
    BLINK, CLIMB, CLIMB_AND_HALT, COUNTER, FIXED, LIMITS_COUNT, Definition, Walk, random_programs, random_rule, random_time, separated,
)

PROGRAMS = [parse_program(text) for text in FIXED] + random_programs(random.Random(41), 60)
WIDE = "var x 0..59 = 0 limit low\nx := if x < 58 then x + 1 else 0"


def value_in(program, state, expression):
    return evaluate(expression, dict(zip(names_of(program), state)))


def expressions_of(program):
    names = names_of(program)
    texts = [names[0], names[-1], names[0] + " + 7 * " + names[-1], names[0] + " mod 2", names[0] + " = " + names[-1], "5", f"if {names[0]} = 0 then 1 else 0"]
    found = [parse_expression(text, names) for text in texts]
    return found + ([program[1]] if program[1] is not None else [])


def both_runs(first, second):
    """The walk of pairs of states of two programs."""
    one, other = Definition(first), Definition(second)
    return Walk(lambda states, level: (one.jump(states[0], level), other.jump(states[1], level)))


def changed_program(choose, program):
    """A program that differs in a start value, a limit rule, an assignment or the halt condition."""
    variables, halt, assignments = program
    names = names_of(program)
    at = choose.randrange(len(variables))
    name, low, high, start, rule = variables[at]
    what = choose.choice(["start", "rule", "rule", "assignment", "halt"])
    if what == "start":
        start = choose.randint(low, high)
    if what == "rule":
        rule = choose.choice([("low",), ("high",), ("keep", choose.randint(low, high)), ("set", choose.randint(low, high))])
    if what == "assignment":
        expression = parse_expression(choose.choice(["0", "1", name, f"1 - {name}", f"{name} + 1", f"{names[0]} + {names[-1]}"]), names)
        assignments = tuple((other, expression if other == name else own) for other, own in assignments)
    if what == "halt":
        halt = choose.choice([None, ("=", ("name", name), ("int", choose.randint(low, high)))])
    return variables[:at] + ((name, low, high, start, rule),) + variables[at + 1:], halt, assignments


class ExampleTest(unittest.TestCase):
    def test_rule_effects(self):
        self.assertEqual(rule_effects(parse_program(BLINK), ("name", "x")),
                         [("x", ("high",), (1, 0)), ("x", ("keep", 0), None), ("x", ("keep", 1), (1, 0)), ("x", ("set", 0), None), ("x", ("set", 1), (1, 0))])


class RunDifferenceTest(unittest.TestCase):
    def check(self, first, second, expression):
        """The time is the least one at which the expression differs, by the definition of both runs."""
        found = run_difference(first, second, expression)
        self.assertEqual(run_difference(second, first, expression), found)
        starts = (start_state(first), start_state(second))
        walk = both_runs(first, second)

        def is_same(states):
            return value_in(first, states[0], expression) == value_in(second, states[1], expression)

        if found is None:
            self.assertTrue(all(is_same(states) for states in walk.visited(starts, 16)))
            return None
        self.assertFalse(is_same(walk.at(starts, found)))
        self.assertTrue(all(is_same(states) for states in walk.before(starts, found)))
        at = [Tower(first).state_at(starts[0], found), Tower(second).state_at(starts[1], found)]
        self.assertNotEqual(value_in(first, at[0], expression), value_in(second, at[1], expression))
        return found

    def test_changed_programs(self):
        choose = random.Random(42)
        found = []
        for turn in range(500):
            program = choose.choice(PROGRAMS)
            changed = changed_program(choose, program)
            found.append(self.check(program, changed, choose.choice(expressions_of(program))))
        # Each kind of answer was seen.
        self.assertGreater(found.count(None), 10)
        self.assertGreater(found.count(()), 5)
        self.assertGreater(len([time for time in found if time and len(time) > 1]), 5)

    def test_each_kind_of_change(self):
        program = parse_program("var x 0..3 = 0 limit low\nvar y 0..1 = 0 limit low\nhalt y = 1\nx := if x < 2 then x + 1 else 0")
        for old, new, text, time in (
            ("x 0..3 = 0", "x 0..3 = 1", "x", ()),
            ("x 0..3 = 0", "x 0..3 = 3", "x = 3", ()),
            ("x 0..3 = 0", "x 0..3 = 3", "x > 0", ()),
            ("x 0..3 = 0", "x 0..3 = 2", "x = 1", (1,)),
            ("x 0..3 = 0 limit low", "x 0..3 = 0 limit high", "x", (1, 0)),
            ("x 0..3 = 0 limit low", "x 0..3 = 0 limit high", "x = 3", None),
            ("x 0..3 = 0 limit low", "x 0..3 = 0 limit keep 0", "x", None),
            ("x 0..3 = 0 limit low", "x 0..3 = 0 limit set 3", "x = 3", (1, 0)),
            ("x 0..3 = 0 limit low", "x 0..3 = 0 limit set 1", "x = 2", (1, 1)),
            ("x < 2", "x < 3", "x", (3,)),
            ("else 0", "else 1", "x", (3,)),
            ("else 0", "else 1", "x = 2", (4,)),
            ("y = 1", "x = 2", "x", (3,)),
            ("y = 1", "x = 5", "x", None),
            ("y = 1", "x = 2", "y", None),
        ):
            changed = parse_program(format_program(program).replace(old, new))
            with self.subTest(old=old, new=new, text=text):
                self.assertNotEqual(changed, program)
                self.assertEqual(self.check(program, changed, parse_expression(text, ["x", "y"])), time)

    def test_unlike_variables_and_heights(self):
        for first, second, text, time in (
            (COUNTER, BLINK, "x", (2,)),
            (COUNTER, "var n -5..5 = 0 limit low", "n", (1,)),
            (COUNTER, "var a 0..1 = 1 limit low\nvar n -3..9 = 0 limit low\nn := n + a\na := 0", "n", (1, 1)),
            (COUNTER, "var n 0..1 = 0 limit low\nn := 1", "min(n, 1)", None),
            (CLIMB, BLINK, "x", None),
            (CLIMB, "var n 0..29 = 0 limit high", "n", (1,)),
            (CLIMB, CLIMB_AND_HALT, "x", (1,) + (0,) * 28 + (1,)),
            (CLIMB, CLIMB.replace("0..29", "0..28"), "n", (1,) + (0,) * 27 + (1,)),
            (CLIMB, CLIMB.replace("0..29", "0..9"), "n", (1,) + (0,) * 8 + (1,)),
        ):
            programs = parse_program(first), parse_program(second)
            expression = parse_expression(text, names_of(programs[0]))
            with self.subTest(first=first, second=second):
                self.assertEqual(run_difference(programs[0], programs[1], expression), time)
                self.assertEqual(run_difference(programs[1], programs[0], expression), time)
                if len(all_states(programs[0])) < 30:
                    self.check(programs[0], programs[1], expression)

    def test_a_program_and_itself(self):
        for program in PROGRAMS + [parse_program(CLIMB), parse_program(WIDE)]:
            for expression in expressions_of(program):
                self.assertIsNone(run_difference(program, program, expression))
                self.assertIsNone(run_difference(program, parse_program(format_program(program)), expression))

    def test_before_the_time(self):
        choose = random.Random(43)
        for turn in range(100):
            program = choose.choice(PROGRAMS)
            changed, expression = changed_program(choose, program), choose.choice(expressions_of(program))
            found = run_difference(program, changed, expression)
            towers = Tower(program), Tower(changed)
            for time in [random_time(choose, 3, 5) for turn in range(20)]:
                if found is None or (len(time), time) < (len(found), found):
                    values = [value_in(tower.source, tower.state_at(start_state(tower.source), time), expression) for tower in towers]
                    self.assertEqual(values[0], values[1])


class StateClassesTest(unittest.TestCase):
    def by_definition(self, program, expression):
        """The classes of all states, split by the jumps at more levels than there are states."""
        states, definition = all_states(program), Definition(program)
        columns = [[states.index(definition.jump(state, level)) for state in states] for level in range(len(states) + 2)]
        classes = separated([value_in(program, state, expression) for state in states], columns)
        return [[state for state, own in zip(states, classes) if own == number] for number in dict.fromkeys(classes)]

    def test_by_the_definition(self):
        sizes = set()
        for program in PROGRAMS:
            for expression in expressions_of(program):
                found = state_classes(program, expression)
                self.assertEqual(found, self.by_definition(program, expression))
                sizes.add(len(found))
        self.assertGreater(len(sizes), 4)

    def test_equal_traces(self):
        for program in PROGRAMS[:40]:
            tower = Tower(program)
            for expression in expressions_of(program):
                found = state_classes(program, expression)
                self.assertEqual(sorted(state for own in found for state in own), all_states(program))
                traces = []
                for own in found:
                    self.assertEqual(own, sorted(own))
                    own_traces = {trace_of(tower, state, expression) for state in own}
                    self.assertEqual(len(own_traces), 1)
                    traces.extend(own_traces)
                self.assertEqual(len(set(traces)), len(found))
                self.assertEqual([own[0] for own in found], sorted(own[0] for own in found))

    def test_known_classes(self):
        for text, expression, expected in (
            (BLINK, "x", [[(0,)], [(1,)]]),
            (BLINK, "7", [[(0,), (1,)]]),
            (BLINK, "x - x", [[(0,), (1,)]]),
            ("var x 0..3 = 0 limit low", "x", [[(0,)], [(1,)], [(2,)], [(3,)]]),
            ("var x 0..3 = 0 limit low", "x mod 2", [[(0,), (2,)], [(1,), (3,)]]),
            ("var x 0..3 = 0 limit set 0", "x mod 2", [[(0,), (2,)], [(1,), (3,)]]),
            ("var x 0..3 = 0 limit set 0", "x = 3", [[(0,), (1,), (2,)], [(3,)]]),
            # Behind one step all are alike; x = 2 and x = 3 differ in their next step.
            ("var x 0..3 = 0 limit low\nx := if x = 3 then 1 else 0", "x = 1", [[(0,), (2,)], [(1,)], [(3,)]]),
            # Only the limit tells 0 from 1: there x is what it was, and then y follows.
            ("var x 0..1 = 0 limit keep 0\nvar y 0..1 = 0 limit set 1\ny := if y = 1 then x else 0", "y", [[(0, 0)], [(0, 1)], [(1, 0)], [(1, 1)]]),
            ("var x 0..1 = 0 limit keep 0\nvar y 0..1 = 0 limit set 1\ny := 0", "y", [[(0, 0), (1, 0)], [(0, 1), (1, 1)]]),
            # 0 and 3 go 0, 1, 0, 1 .., and so do 1 and 2 one step later: only at w they are 0 and 2.
            ("var x 0..3 = 0 limit low\nx := if x = 0 then 1 else if x = 1 then 0 else 5 - x", "x = 1 or x = 2", [[(0,)], [(1,)], [(2,)], [(3,)]]),
            ("var x 0..3 = 0 limit low\nx := if x = 0 then 1 else if x = 1 then 0 else 5 - x", "x = 1 or x = 3", [[(0,), (2,)], [(1,), (3,)]]),
            # The halt keeps x = 2 at the limits.
            ("var x 0..2 = 0 limit set 0\nhalt x = 2", "x > 0", [[(0,)], [(1,)], [(2,)]]),
            ("var x 0..2 = 0 limit set 0\nhalt x = 7", "x > 0", [[(0,)], [(1,), (2,)]]),
        ):
            program = parse_program(text)
            with self.subTest(text=text, expression=expression):
                found = state_classes(program, parse_expression(expression, names_of(program)))
                self.assertEqual(found, expected)
                self.assertEqual(found, self.by_definition(program, parse_expression(expression, names_of(program))))

    def test_high_levels(self):
        program = parse_program(CLIMB)
        # A state is told by how long it takes until n is 29.
        self.assertEqual(state_classes(program, ("name", "n")), [[state] for state in all_states(program)])
        self.assertEqual(state_classes(program, parse_expression("n = 29", ["n", "x"])), self.by_definition(program, parse_expression("n = 29", ["n", "x"])))
        self.assertEqual(state_classes(program, ("name", "x")), [[(n, x) for n in range(30)] for x in (0, 1)])
        self.assertEqual(state_classes(parse_program(WIDE), ("int", 3)), [all_states(parse_program(WIDE))])

    def test_new_lists(self):
        program = parse_program(COUNTER)
        found = state_classes(program, ("name", "n"))
        self.assertIs(type(found), list)
        before = repr(found)
        for own in found:
            self.assertIs(type(own), list)
            own.clear()
        found.clear()
        self.assertEqual(repr(state_classes(program, ("name", "n"))), before)


class WithRuleTest(unittest.TestCase):
    def test_each_rule(self):
        for program in PROGRAMS:
            before = repr(program)
            for at, (name, low, high, start, rule) in enumerate(program[0]):
                rules = [("low",), ("high",)] + [(word, value) for word in ("keep", "set") for value in range(low, high + 1)]
                for other in rules:
                    changed = with_rule(program, name, other)
                    self.assertEqual(changed[0][at], (name, low, high, start, other))
                    self.assertEqual(changed[0][:at] + changed[0][at + 1:], program[0][:at] + program[0][at + 1:])
                    self.assertEqual(changed[1:], program[1:])
                    self.assertEqual([type(changed), type(changed[0]), type(changed[0][at])], [tuple] * 3)
                    self.assertEqual(parse_program(format_program(changed)), changed)
                    self.assertEqual(with_rule(changed, name, rule), program)
                self.assertEqual(with_rule(program, name, rule), program)
            self.assertEqual(repr(program), before)

    def test_bounds(self):
        program = parse_program("var x -2..3 = 0 limit low\nvar y 5..5 = 5 limit high")
        for word in ("keep", "set"):
            for name, value in (("x", -2), ("x", 3), ("x", 0), ("y", 5)):
                self.assertIn((word, value), [variable[4] for variable in with_rule(program, name, (word, value))[0]])
            for name, value in (("x", -3), ("x", 4), ("x", 10 ** 20), ("x", -10 ** 20), ("y", 4), ("y", 6), ("y", 0), ("y", -5)):
                with self.assertRaises(OutOfRange) as caught:
                    with_rule(program, name, (word, value))
                self.assertIsInstance(caught.exception, LimitRunError)
        self.assertEqual(with_rule(program, "y", ("low",))[0][1], ("y", 5, 5, 5, ("low",)))

    def test_no_variable_first(self):
        program = parse_program(COUNTER)
        for name in ("y", "", "X", "nn", "x ", "var", "limit", " ", "x\n"):
            for rule in (("low",), ("high",), ("keep", 0), ("set", 3), ("keep", 99), ("set", -1)):
                with self.assertRaises(NoVariable) as caught:
                    with_rule(program, name, rule)
                self.assertEqual(caught.exception.name, name)


class RuleEffectsTest(unittest.TestCase):
    def check(self, program, expression):
        found = rule_effects(program, expression)
        expected = []
        for name, low, high, start, own in program[0]:
            for rule in [("low",), ("high",)] + [("keep", value) for value in range(low, high + 1)] + [("set", value) for value in range(low, high + 1)]:
                if rule != own:
                    expected.append((name, rule))
        self.assertEqual([effect[:2] for effect in found], expected)
        for name, rule, time in found:
            self.assertEqual(time, run_difference(program, with_rule(program, name, rule), expression))
        return found

    def test_each_rule(self):
        for program in PROGRAMS[:50]:
            for expression in expressions_of(program)[:4]:
                self.check(program, expression)

    def test_by_the_definition(self):
        for text, expression in ((COUNTER, "n"), (COUNTER, "x"), (LIMITS_COUNT, "n"), (FIXED[-1], "x"), (FIXED[-1], "y")):
            program = parse_program(text)
            expression = parse_expression(expression, names_of(program))
            for name, rule, time in self.check(program, expression):
                RunDifferenceTest().check(program, with_rule(program, name, rule), expression)

    def test_known_effects(self):
        program = parse_program("var x 0..1 = 0 limit set 0\nvar n 1..1 = 1 limit keep 1\nx := 1")
        self.assertEqual(rule_effects(program, ("name", "x")), [
            ("x", ("low",), (1, 0)), ("x", ("high",), (1, 0)), ("x", ("keep", 0), (1, 0)), ("x", ("keep", 1), (1, 0)), ("x", ("set", 1), (1, 0)),
            ("n", ("low",), None), ("n", ("high",), None), ("n", ("set", 1), None),
        ])
        # x is 0 before each limit: a rule makes itself felt where it gives 1.
        program = parse_program("var x -1..0 = 0 limit high")
        self.assertEqual(rule_effects(program, ("name", "x")), [
            ("x", ("low",), None), ("x", ("keep", -1), None), ("x", ("keep", 0), None), ("x", ("set", -1), (1, 0)), ("x", ("set", 0), None),
        ])
        # n is 29 for the first time in the step behind w^28, if not a rule takes it there at w or behind it.
        effects = rule_effects(parse_program(CLIMB), ("=", ("name", "n"), ("int", 29)))
        self.assertEqual([time for name, rule, time in effects if rule in (("low",), ("keep", 0), ("keep", 29), ("set", 28)) and name == "n"],
                         [(1,) + (0,) * 27 + (1,), (1,) + (0,) * 27 + (1,), (1, 0), (1, 1)])

    def test_large_programs(self):
        begin = clock.perf_counter()
        for text, name in ((CLIMB, "n"), (CLIMB_AND_HALT, "n"), (WIDE, "x"), (WIDE.replace("low", "keep 7"), "x")):
            program = parse_program(text)
            found = rule_effects(program, ("name", name))
            sizes = [variable[2] - variable[1] + 1 for variable in program[0]]
            self.assertEqual(len(found), sum(1 + 2 * size for size in sizes))
        self.assertLess(clock.perf_counter() - begin, 20)

    def test_the_same_again(self):
        choose = random.Random(44)
        for program in choose.sample(PROGRAMS, 10):
            before = repr(program)
            found = rule_effects(program, ("name", program[0][0][0]))
            self.assertIs(type(found), list)
            kept = list(found)
            found.clear()
            self.assertEqual(rule_effects(program, ("name", program[0][0][0])), kept)
            self.assertEqual(repr(program), before)


if __name__ == "__main__":
    unittest.main()
