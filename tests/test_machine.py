"""Points 11 and 12: states, steps and limits."""

import itertools
import unittest

from limitrun.machine import all_states, is_halted, limit_state, start_state, successor
from limitrun.syntax import parse_program

COUNTER = parse_program("var x 0..1 = 0 limit set 0\nvar n 0..3 = 0 limit keep 0\nhalt n = 3\nx := 1\nn := if x = 0 then n + 1 else n")


class StateTest(unittest.TestCase):
    def test_start_state(self):
        self.assertEqual(start_state(COUNTER), (0, 0))
        program = parse_program("var b -3..3 = -2 limit low\nvar a 5..7 = 7 limit low\nvar c 0..0 = 0 limit low")
        self.assertEqual(start_state(program), (-2, 7, 0))
        self.assertIs(type(start_state(program)), tuple)

    def test_all_states(self):
        program = parse_program("var x 0..1 = 0 limit low\nvar y -1..0 = 0 limit low")
        self.assertEqual(all_states(program), [(0, -1), (0, 0), (1, -1), (1, 0)])
        self.assertEqual(all_states(parse_program("var x 4..4 = 4 limit low")), [(4,)])
        self.assertEqual(all_states(parse_program("var x -30..29 = 0 limit low")), [(value,) for value in range(-30, 30)])

    def test_all_states_ascend(self):
        program = parse_program("var c 1..2 = 1 limit low\nvar b -2..2 = 0 limit low\nvar a -3..-1 = -1 limit low\nvar d 0..1 = 0 limit low\nhalt a = b")
        states = all_states(program)
        self.assertEqual(states, list(itertools.product((1, 2), (-2, -1, 0, 1, 2), (-3, -2, -1), (0, 1))))
        self.assertEqual(states, sorted(states))

    def test_all_states_is_a_new_list(self):
        first = all_states(COUNTER)
        self.assertIs(type(first), list)
        first.clear()
        self.assertEqual(len(all_states(COUNTER)), 8)


class HaltedTest(unittest.TestCase):
    def test_example(self):
        self.assertEqual([is_halted(COUNTER, (0, 3)), is_halted(COUNTER, (0, 2))], [True, False])

    def test_it_returns_a_bool(self):
        for condition, value, halted in (("x", 0, False), ("x", 1, True), ("x", 2, True), ("-x", 2, True), ("x - 1", 1, False), ("x - 1", 0, True),
                                         ("0", 1, False), ("7", 1, True), ("x = 2", 2, True), ("not x", 0, True), ("x mod 2", 2, False)):
            with self.subTest(condition=condition, value=value):
                program = parse_program(f"var x 0..2 = 0 limit low\nhalt {condition}")
                self.assertIs(is_halted(program, (value,)), halted)

    def test_without_a_condition(self):
        program = parse_program("var x 0..2 = 0 limit low\nx := x")
        for value in range(3):
            self.assertIs(is_halted(program, (value,)), False)


class SuccessorTest(unittest.TestCase):
    def test_example(self):
        self.assertEqual([successor(COUNTER, (0, 0)), successor(COUNTER, (0, 3))], [(1, 1), (0, 3)])

    def test_all_variables_change_at_once(self):
        program = parse_program("var x 0..4 = 0 limit low\nvar y 0..4 = 0 limit low\nx := y\ny := x")
        for state in all_states(program):
            self.assertEqual(successor(program, state), (state[1], state[0]))
        program = parse_program("var x 0..1 = 0 limit low\nvar y 0..1 = 0 limit low\nvar z 0..1 = 0 limit low\nz := y\ny := x\nx := 1 - z")
        for x, y, z in all_states(program):
            self.assertEqual(successor(program, (x, y, z)), (1 - z, x, y))

    def test_a_variable_without_an_assignment_keeps_its_value(self):
        program = parse_program("var x 0..2 = 0 limit low\nvar y -1..1 = 0 limit low\nx := x + 1")
        self.assertEqual(successor(program, (0, -1)), (1, -1))
        self.assertEqual(successor(parse_program("var x 0..2 = 0 limit low"), (2,)), (2,))

    def test_values_beyond_the_range(self):
        program = parse_program("var x -2..3 = 0 limit low\nx := x * 2 + 1")
        self.assertEqual([successor(program, (value,)) for value in range(-2, 4)], [(-2,), (-1,), (1,), (3,), (3,), (3,)])
        for expression, value in (("-3", -2), ("-2", -2), ("-999999", -2), ("4", 3), ("3", 3), ("999999", 3), ("0", 0)):
            program = parse_program(f"var x -2..3 = 0 limit low\nx := {expression}")
            self.assertEqual(successor(program, (1,)), (value,))
        program = parse_program("var x 5..7 = 5 limit low\nvar y -7..-5 = -5 limit low\nx := 0\ny := 0")
        self.assertEqual(successor(program, (6, -6)), (5, -5))

    def test_halted_states(self):
        program = parse_program("var x 0..3 = 0 limit low\nvar y 0..1 = 0 limit low\nhalt x = 2 and y = 1\nx := x + 1\ny := 1 - y")
        self.assertEqual([successor(program, (2, 1)), successor(program, (2, 0)), successor(program, (1, 1))], [(2, 1), (3, 1), (2, 0)])
        program = parse_program("var x 0..3 = 0 limit low\nhalt -1\nx := x + 1")
        self.assertEqual(successor(program, (1,)), (1,))
        program = parse_program("var x 0..3 = 0 limit low\nhalt 0\nx := x + 1")
        self.assertEqual(successor(program, (1,)), (2,))

    def test_it_returns_a_tuple(self):
        self.assertIs(type(successor(COUNTER, (0, 0))), tuple)
        self.assertIs(type(successor(COUNTER, (0, 3))), tuple)


class LimitTest(unittest.TestCase):
    def limit_by(self, rule, states, more=""):
        return limit_state(parse_program(f"var x -2..5 = 0 limit {rule}{more}"), states)

    def test_example(self):
        self.assertEqual([limit_state(COUNTER, [(1, 2), (0, 1)]), limit_state(COUNTER, [(1, 3)])], [(0, 0), (1, 3)])

    def test_rules(self):
        several = [(2,), (-1,), (4,)]
        for rule, value in (("low", -1), ("high", 4), ("keep 0", 0), ("keep 4", 4), ("keep -2", -2), ("set 0", 0), ("set 4", 4), ("set -2", -2)):
            for states in itertools.permutations(several):
                with self.subTest(rule=rule, states=states):
                    self.assertEqual(self.limit_by(rule, list(states)), (value,))

    def test_one_state_alone(self):
        for rule, value in (("low", 3), ("high", 3), ("keep 0", 3), ("keep 3", 3), ("set 0", 0), ("set 3", 3), ("set -2", -2)):
            for times in (1, 2, 5):
                with self.subTest(rule=rule, times=times):
                    self.assertEqual(self.limit_by(rule, [(3,)] * times), (value,))
                    self.assertEqual(self.limit_by(rule, [(3,)] * times, "\nhalt x = 2"), (value,))

    def test_one_halted_state_alone(self):
        for rule in ("low", "high", "keep 0", "set 0", "set -2", "set 3"):
            for times in (1, 2, 5):
                with self.subTest(rule=rule, times=times):
                    self.assertEqual(self.limit_by(rule, [(3,)] * times, "\nhalt x"), (3,))

    def test_several_states_of_which_some_are_halted(self):
        self.assertEqual(self.limit_by("set 0", [(3,), (2,)], "\nhalt 1"), (0,))
        self.assertEqual(self.limit_by("set 0", [(2,), (3,), (3,)], "\nhalt x = 3"), (0,))
        self.assertEqual(self.limit_by("keep -1", [(3,), (3,), (2,)], "\nhalt x = 3"), (-1,))

    def test_each_variable_by_its_own_rule(self):
        text = "var a 0..1 = 0 limit low\nvar b 0..1 = 0 limit high\nvar c 0..2 = 0 limit keep 2\nvar d 0..2 = 0 limit set 1"
        program = parse_program(text)
        self.assertEqual(limit_state(program, [(0, 1, 0, 0), (1, 0, 0, 2)]), (0, 1, 0, 1))
        self.assertEqual(limit_state(program, [(1, 0, 1, 0), (1, 0, 0, 0)]), (1, 0, 2, 1))
        self.assertEqual(limit_state(program, [(0, 0, 1, 2), (1, 0, 1, 2), (1, 1, 1, 2)]), (0, 1, 1, 1))
        self.assertEqual(limit_state(program, [(1, 0, 1, 0)]), (1, 0, 1, 1))
        self.assertEqual(limit_state(parse_program(text + "\nhalt a = 1"), [(1, 0, 1, 0)]), (1, 0, 1, 0))

    def test_order_and_repetition_make_no_difference(self):
        program = parse_program("var a 0..2 = 0 limit low\nvar b 0..2 = 0 limit high\nvar c 0..2 = 0 limit keep 0\nhalt a = b")
        states = [(1, 2, 1), (2, 0, 1), (1, 1, 1)]
        expected = limit_state(program, states)
        self.assertEqual(expected, (1, 2, 1))
        for row in itertools.product(states, repeat=4):
            if len(set(row)) == 3:
                self.assertEqual(limit_state(program, list(row)), expected)

    def test_the_list_does_not_change(self):
        states = [(1, 2), (0, 1), (1, 2), (0, 0)]
        limit_state(COUNTER, states)
        self.assertEqual(states, [(1, 2), (0, 1), (1, 2), (0, 0)])
        halted = [(1, 3), (1, 3)]
        limit_state(COUNTER, halted)
        self.assertEqual(halted, [(1, 3), (1, 3)])

    def test_it_returns_a_tuple(self):
        self.assertIs(type(limit_state(COUNTER, [(1, 2), (0, 1)])), tuple)
        self.assertIs(type(limit_state(COUNTER, [(1, 3)])), tuple)


if __name__ == "__main__":
    unittest.main()
