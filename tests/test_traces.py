"""Points 19 and 20: tables of traces, their values, and the first difference of two."""

import random
import unittest

from limitrun.machine import all_states, start_state
from limitrun.ordinals import add, compare, is_ordinal
from limitrun.syntax import evaluate, names_of, parse_expression, parse_program
from limitrun.tower import Tower
from limitrun.traces import build_trace, drop, first_difference, is_trace, trace_of, value_at
from reference import (
    BLINK, CLIMB, COUNTER, FIXED, Definition, pairs_walk, random_programs, random_time, rows_walk, separated, smallest_table, table_jump,
)

PROGRAMS = [parse_program(text) for text in FIXED] + random_programs(random.Random(19), 60)
LARGEST = 10 ** 18 - 1
TRACE = ((0, (1, 2, 3)), (1, (1, 2, 3)), (1, (4, 5, 3)), (3, (3, 3, 3)), (2, (4, 5, 3)), (2, (3, 3, 3)))


def expressions_of(program):
    names = names_of(program)
    texts = [names[0], names[-1] + " + 2 * " + names[0], names[0] + " = " + names[-1], names[0] + " mod 2", "7", "-" + names[-1]]
    return [parse_expression(text, names) for text in texts]


def some_tables(choose, number):
    """Tables of traces of runs, some of them equal."""
    tables = []
    while len(tables) < number:
        program = choose.choice(PROGRAMS)
        tower = Tower(program)
        tables.append(trace_of(tower, choose.choice(all_states(program)), choose.choice(expressions_of(program))))
    return tables


def line_of(number, levels):
    """The description of a trace in which the first step leads round through number values, and each limit to the first."""
    return build_trace(0, lambda thing: thing, lambda thing, level: (thing + 1) % number if level == 0 else 0, levels)


def staircase(levels):
    """The table of the trace whose value tells the last term of the time: 0 at 0, level + 1 behind a jump at a level."""
    return ((0, tuple(range(1, levels + 1))),) + tuple((value, tuple(range(1, levels + 1))) for value in range(1, levels + 1))


class ExampleTest(unittest.TestCase):
    def test_trace_of(self):
        self.assertEqual(trace_of(Tower(parse_program(COUNTER)), (0, 0), ("name", "n")), TRACE)

    def test_is_trace(self):
        self.assertEqual([is_trace(((0, (1,)), (1, (0,)))), is_trace(((0, (1, 0)), (1, (0, 0)))), is_trace(((5, (0,)),))], [False, True, True])

    def test_value_at(self):
        self.assertEqual([value_at(TRACE, (2,)), value_at(TRACE, (1, 1)), value_at(TRACE, (2, 1))], [1, 2, 3])

    def test_drop(self):
        self.assertEqual(drop(TRACE, (1, 0)), ((1, (1, 2, 3)), (2, (1, 2, 3)), (2, (3, 3, 3)), (3, (3, 3, 3))))

    def test_first_difference(self):
        self.assertEqual([first_difference(TRACE, drop(TRACE, (1,))), first_difference(drop(TRACE, (1,)), drop(TRACE, (5,)))], [(), None])


class TraceOfTest(unittest.TestCase):
    def test_tables_by_the_definition(self):
        for program in PROGRAMS:
            tower, definition = Tower(program), Definition(program)
            for expression in expressions_of(program):
                for state in all_states(program)[:4]:
                    table = trace_of(tower, state, expression)

                    def value_of(reached):
                        return evaluate(expression, dict(zip(names_of(program), reached)))

                    self.assertEqual(table, smallest_table(state, value_of, definition.jump, len(all_states(program)) + 2))
                    self.assertTrue(is_trace(table))

    def test_values(self):
        choose = random.Random(20)
        for program in PROGRAMS:
            tower = Tower(program)
            for expression in expressions_of(program):
                state = choose.choice(all_states(program))
                table = trace_of(tower, state, expression)
                for time in ((), (1,), (1, 0), (1, 1), (1, 0, 0), (LARGEST,) * 64, random_time(choose, 6), random_time(choose, 9, LARGEST)):
                    reached = dict(zip(names_of(program), tower.state_at(state, time)))
                    self.assertEqual(value_at(table, time), evaluate(expression, reached), (program, state, expression, time))

    def test_a_constant_expression(self):
        for program in PROGRAMS[:20]:
            self.assertEqual(trace_of(Tower(program), start_state(program), ("int", 12)), ((12, (0,)),))
            self.assertEqual(trace_of(Tower(program), start_state(program), ("neg", ("int", 12))), ((-12, (0,)),))

    def test_large_programs(self):
        climb = parse_program(CLIMB)
        table = trace_of(Tower(climb), (0, 0), ("name", "n"))
        self.assertTrue(is_trace(table))
        self.assertEqual(len(table[0][1]), 30)
        self.assertEqual([value_at(table, (1,) + (0,) * level) for level in range(33)], [1] + [min(level, 29) for level in range(1, 33)])
        self.assertEqual(value_at(table, (5, 1, 0, 0, 2)), 0)
        self.assertEqual(value_at(table, (5, 1, 0, 0, 3)), 1)
        circle = parse_program("var x 0..59 = 0 limit set 7\nx := if x = 59 then 0 else x + 1")
        table = trace_of(Tower(circle), (0,), ("name", "x"))
        self.assertTrue(is_trace(table))
        self.assertEqual(len(table), 60)
        self.assertEqual(value_at(table, (1, 60 * 10 ** 15 + 11)), 18)
        table = trace_of(Tower(circle), (0,), parse_expression("x mod 4", ["x"]))
        self.assertEqual(table, ((0, (1, 2)), (1, (3, 2)), (3, (0, 2)), (2, (2, 2))))


class BuildTest(unittest.TestCase):
    def test_against_the_definition(self):
        choose = random.Random(21)
        for turn in range(150):
            one, other = some_tables(choose, 2)
            levels = max(len(one[0][1]), len(other[0][1])) + choose.choice([0, 0, 1, 5])

            def jump_of(rows, level):
                return table_jump(one, rows[0], level), table_jump(other, rows[1], level)

            def value_of(rows):
                return one[rows[0]][0] * other[rows[1]][0]

            if len(one) * len(other) <= 60:
                self.assertEqual(build_trace((0, 0), value_of, jump_of, levels), smallest_table((0, 0), value_of, jump_of, levels))

    def test_tables_stay_as_they_are(self):
        for table in some_tables(random.Random(22), 60) + [TRACE, line_of(100, 2), staircase(64)]:
            for levels in (len(table[0][1]), len(table[0][1]) + 3):
                built = build_trace(0, lambda row: table[row][0], lambda row, level: table_jump(table, row, level), levels)
                self.assertEqual(built, table)

    def test_objects_of_several_kinds(self):
        jumps = {"a": ("b", 7), "b": ((1, 2), 7), (1, 2): ("a", 7), 7: (None, 7), None: (7, 7)}
        values = {"a": 0, "b": 1, (1, 2): 2, 7: 5, None: 5}
        built = build_trace("a", lambda thing: values[thing], lambda thing, level: jumps[thing][level], 2)
        self.assertEqual(built, ((0, (1, 2)), (1, (3, 2)), (5, (2, 2)), (2, (0, 2))))

    def test_rows_that_differ_late(self):
        # Rounds of the first step are told apart only by a value that comes at the end of each.
        for number in (1, 2, 3, 50, 64, 99, 100):
            table = build_trace(0, lambda thing: int(thing % number == 0), lambda thing, level: (thing + 1) % (3 * number) if level == 0 else number, 5)
            self.assertEqual(len(table), number)
            self.assertEqual(len(table[0][1]), 1 if number == 1 else 2)
            self.assertTrue(is_trace(table))

    def test_rows_that_differ_at_high_levels_only(self):
        def jump_of(thing, level):
            # Both sides look the same until time w^5.
            side, value = thing
            return side, side if level >= 5 else 0

        table = build_trace((1, 0), lambda thing: thing[1], jump_of, 8)
        self.assertEqual(table, ((0, (0, 0, 0, 0, 0, 1)), (1, (0, 0, 0, 0, 0, 1))))
        self.assertEqual(build_trace((0, 0), lambda thing: thing[1], jump_of, 8), ((0, (0,)),))

    def test_large_tables(self):
        table = build_trace(0, lambda thing: thing % 1000, lambda thing, level: (thing + 1) % 10000 if level == 0 else 5 * level, 64)
        self.assertEqual(len(table), 1000)
        self.assertEqual(len(table[0][1]), 64)


class IsTraceTest(unittest.TestCase):
    def test_any_objects(self):
        for thing in (None, True, False, 0, 1, -1, 10 ** 30, "", "x", "((5, (0,)),)", (), [], {}, ((),), [[]], (((),),), (5, (0,)), ((5,),), ((5, ()),),
                      ((5, (0,), 0),), ((5, 0),), ((5, None),), ((5, "0"),), ((5, {0: 0}),), (5,), ("ab",), ("a",), (None,), {5: (0,)}, ({5: 0},),
                      ((5, ((0,),)),), (((5,), (0,)),), ((None, (0,)),), (("5", (0,)),), ((5, ("0",)),), ((5, (None,)),), ("a0", (0,))):
            with self.subTest(thing=thing):
                self.assertIs(is_trace(thing), False)

    def test_lists_and_bools(self):
        self.assertIs(is_trace(((5, (0,)),)), True)
        for thing in ([(5, (0,))], ([5, (0,)],), ((5, [0]),), ((True, (0,)),), ((False, (0,)),), ((5, (False,)),)):
            self.assertIs(is_trace(thing), False)
        good = ((0, (1, 0)), (1, (0, 0)))
        self.assertIs(is_trace(good), True)
        for thing in (list(good), (list(good[0]), good[1]), (good[0], list(good[1])), ((0, [1, 0]), (1, (0, 0))), ((0, (1, 0)), (1, [0, 0])),
                      ((0, (True, 0)), (1, (0, 0))), ((0, (1, False)), (1, (0, 0))), ((0, (1, 0)), (True, (0, 0))), ((False, (1, 0)), (1, (0, 0)))):
            self.assertIs(is_trace(thing), False)

    def test_row_numbers_out_of_range(self):
        for thing in (((5, (1,)),), ((5, (-1,)),), ((0, (1, -2)), (1, (0, 0))), ((0, (-1, 0)), (1, (0, 0))), ((0, (2, 0)), (1, (0, 0))),
                      ((0, (1, 0)), (1, (0, 2)))):
            self.assertIs(is_trace(thing), False)

    def test_jumps_of_different_numbers(self):
        for thing in (((0, (1, 0)), (1, (0,))), ((0, (1,)), (1, (0, 0))), ((0, (1, 1)), (1, ())), ((0, (1,)), (1, (1, 1)))):
            self.assertIs(is_trace(thing), False)

    def test_values_of_any_size(self):
        for value in (0, -1, 10 ** 40, -10 ** 40):
            self.assertIs(is_trace(((value, (0,)),)), True)

    def test_rows_that_describe_the_same_trace(self):
        for thing in (((5, (1,)), (5, (1,))), ((0, (1, 2)), (1, (0, 2)), (0, (1, 2))), ((0, (1,)), (1, (2,)), (1, (1,))), ((0, (1, 0)), (1, (2, 0)), (0, (3, 0)), (1, (0, 0)))):
            self.assertIs(is_trace(thing), False)

    def test_rows_that_are_not_reached(self):
        for thing in (((5, (0,)), (6, (1,))), ((5, (0,)), (6, (0,))), ((0, (1, 0)), (1, (0, 0)), (2, (0, 0)))):
            self.assertIs(is_trace(thing), False)

    def test_rows_in_another_order(self):
        self.assertIs(is_trace(((0, (1, 2)), (1, (0, 2)), (2, (2, 2)))), True)
        self.assertIs(is_trace(((0, (2, 1)), (2, (1, 1)), (1, (0, 1)))), False)
        self.assertIs(is_trace(((1, (1, 2)), (0, (0, 2)), (2, (2, 2)))), True)
        self.assertIs(is_trace(((0, (1, 1)), (1, (2, 1)), (2, (1, 1)))), True)
        self.assertIs(is_trace(((0, (2, 2)), (2, (2, 2)), (1, (1, 2)))), False)
        self.assertIs(is_trace(((0, (2, 2)), (1, (1, 2)), (2, (1, 2)))), False)

    def test_too_many_columns(self):
        for table in some_tables(random.Random(23), 40) + [TRACE, ((5, (0,)),), ((0, (1, 0)), (1, (0, 0)))]:
            wider = tuple((value, jumps + jumps[-1:]) for value, jumps in table)
            self.assertIs(is_trace(table), True)
            self.assertIs(is_trace(wider), False)

    def test_a_lower_jump_before_a_higher_one(self):
        # At level 1 the row that is reached depends on the step before.
        self.assertIs(is_trace(((0, (1, 0)), (1, (0, 1)))), False)
        self.assertIs(is_trace(((0, (1, 2)), (1, (0, 3)), (2, (2, 2)), (3, (3, 3)))), False)
        self.assertIs(is_trace(((0, (1, 2)), (1, (0, 2)), (2, (3, 2)), (3, (3, 3)))), False)
        self.assertIs(is_trace(((0, (1, 2)), (1, (0, 2)), (2, (3, 2)), (3, (3, 2)))), True)
        # The same between levels 1 and 2.
        self.assertIs(is_trace(((0, (0, 1, 2)), (1, (1, 1, 2)), (2, (2, 2, 2)))), True)
        self.assertIs(is_trace(((0, (1, 2, 3)), (1, (1, 2, 3)), (2, (2, 2, 4)), (3, (3, 3, 3)), (4, (4, 4, 4)))), False)
        self.assertIs(is_trace(((0, (1, 2, 3)), (1, (1, 2, 4)), (2, (2, 2, 3)), (3, (3, 3, 3)), (4, (4, 4, 4)))), False)
        self.assertIs(is_trace(((0, (1, 2, 3)), (1, (1, 2, 3)), (2, (2, 2, 3)), (3, (3, 3, 3)))), True)

    def test_two_jumps_at_the_last_level(self):
        self.assertIs(is_trace(((0, (1,)), (1, (2,)), (2, (2,)))), False)
        self.assertIs(is_trace(((0, (1,)), (1, (1,)))), True)
        self.assertIs(is_trace(((0, (0, 1)), (1, (1, 2)), (2, (2, 2)))), False)
        self.assertIs(is_trace(((0, (1, 0)), (1, (0, 0)))), True)

    def test_bounds(self):
        for number in (98, 99, 100, 101, 102):
            self.assertEqual(len(line_of(number, 3)), number)
            self.assertIs(is_trace(line_of(number, 3)), number <= 100)
        for levels in (62, 63, 64, 65, 66):
            self.assertIs(is_trace(staircase(levels)), levels <= 64)
        self.assertIs(is_trace(((5, (0,) * 64),)), False)

    def test_large_tables(self):
        def jump_of(thing, level):
            if level > 0:
                return 35 + level
            return (thing + 1) % 36 if thing < 36 else thing

        table = build_trace(0, lambda thing: int(thing == 0) if thing < 36 else thing, jump_of, 64)
        self.assertEqual([len(table), len(table[0][1])], [99, 64])
        self.assertIs(is_trace(table), True)
        found = []
        for row in (0, 17, 35, 36, 60, 98):
            for level in (0, 1, 30, 63):
                jumps = list(table[row][1])
                jumps[level] = (jumps[level] + 1) % 99
                changed = table[:row] + ((table[row][0], tuple(jumps)),) + table[row + 1:]
                found.append(is_trace(changed))
                self.assertIs(found[-1], self.judge(changed))
        self.assertLess(sum(found), len(found) / 2)

    def judge(self, table):
        """Points 19 and 20 by their words, for a tuple of rows with row numbers."""
        levels = len(table[0][1])
        columns = [[row[1][level] for row in table] for level in range(levels)]
        if len(set(separated([row[0] for row in table], columns))) < len(table):
            return False
        mentioned = [0]
        for row in mentioned:
            mentioned += [jump for place, jump in enumerate(table[row][1]) if jump not in mentioned and jump not in table[row][1][:place]]
        if mentioned != list(range(len(table))) or (levels > 1 and columns[-1] == columns[-2]):
            return False
        pairs = [(low, high) for high in range(levels) for low in range(high)] + [(levels - 1, levels - 1)]
        return all(columns[high][columns[low][row]] == columns[high][row] for low, high in pairs for row in range(len(table)))

    def test_all_small_tuples(self):
        found = 0
        for rows in (1, 2, 3):
            for levels in (1, 2, 3) if rows < 3 else (1, 2):
                choices = [()]
                for level in range(levels * rows):
                    choices = [choice + (row,) for choice in choices for row in range(rows)]
                for values in [(4, 4, 4), (0, 1, 1), (0, 1, 0), (1, 1, 0), (0, 1, 2)]:
                    for choice in choices:
                        table = tuple((values[row], choice[row * levels:row * levels + levels]) for row in range(rows))
                        self.assertIs(is_trace(table), self.judge(table), table)
                        found += is_trace(table)
        self.assertGreater(found, 30)

    def test_changed_tables(self):
        choose = random.Random(24)
        found = 0
        for table in some_tables(choose, 600):
            rows = [(value, list(jumps)) for value, jumps in table]
            for change in range(choose.choice([1, 1, 2])):
                row = choose.randrange(len(rows))
                if choose.random() < 0.3:
                    rows[row] = (rows[row][0] + choose.choice([-1, 1]), rows[row][1])
                else:
                    rows[row][1][choose.randrange(len(rows[row][1]))] = choose.randrange(len(rows))
            changed = tuple((value, tuple(jumps)) for value, jumps in rows)
            self.assertIs(is_trace(changed), self.judge(changed), changed)
            found += is_trace(changed)
        self.assertGreater(found, 50)


class ValueTest(unittest.TestCase):
    def test_values_by_the_definition(self):
        choose = random.Random(25)
        for table in some_tables(choose, 150) + [TRACE]:
            walk = rows_walk(table)
            for time in ((), (1,), (2,), (1, 0), (2, 0, 0), (1, 0, 1), random_time(choose, 6), (1,) + (0,) * 63, (2, 1) + (0,) * 61 + (3,)):
                self.assertEqual(value_at(table, time), table[walk.at(0, time)][0])

    def test_large_coefficients(self):
        table = line_of(100, 2)
        for count in (99, 100, 101, 10 ** 9, LARGEST):
            self.assertEqual(value_at(table, (count,)), count % 100)
            self.assertEqual(value_at(table, (count, count)), count % 100)
            self.assertEqual(value_at(table, (count, 0)), 0)

    def test_drop(self):
        choose = random.Random(26)
        for table in some_tables(choose, 150) + [TRACE, line_of(100, 2)]:
            self.assertEqual(drop(table, ()), table)
            for time in ((1,), (3,), (1, 0), (1, 1), (1, 0, 0), (LARGEST,) * 64, random_time(choose), random_time(choose, 6)):
                dropped = drop(table, time)
                self.assertTrue(is_trace(dropped))
                for later in ((), (1,), (1, 0), (2, 3), random_time(choose), random_time(choose, 8, LARGEST)):
                    self.assertEqual(value_at(dropped, later), value_at(table, add(time, later)))
                self.assertEqual(drop(dropped, (1, 2)), drop(table, add(time, (1, 2))))

    def test_drop_leaves_no_column_that_is_not_needed(self):
        table = ((0, (1, 2)), (1, (1, 2)), (2, (2, 2)))
        self.assertEqual(drop(table, (1,)), ((1, (0, 1)), (2, (1, 1))))
        self.assertEqual(drop(table, (1, 0)), ((2, (0,)),))
        self.assertEqual(drop(staircase(64), (1, 0)), tuple((value, tuple([1, 0] + list(range(2, 64)))) for value in (2, 1) + tuple(range(3, 65))))


class DifferenceTest(unittest.TestCase):
    def check(self, one, other):
        time = first_difference(one, other)
        self.assertEqual(first_difference(other, one), time)
        self.assertEqual(time is None, one == other)
        walk = pairs_walk(one, other)
        if time is None:
            return
        self.assertTrue(is_ordinal(time))
        self.assertNotEqual(value_at(one, time), value_at(other, time))
        for row, another in walk.before((0, 0), time):
            self.assertEqual(one[row][0], other[another][0])

    def test_traces_of_runs(self):
        choose = random.Random(27)
        for program in PROGRAMS:
            tower = Tower(program)
            for expression in expressions_of(program):
                tables = [trace_of(tower, state, expression) for state in all_states(program)[:5]]
                for one in tables:
                    for other in tables:
                        self.check(one, other)
        for turn in range(500):
            self.check(*some_tables(choose, 2))

    def test_dropped_traces(self):
        choose = random.Random(28)
        for table in some_tables(choose, 120) + [TRACE]:
            self.check(table, drop(table, random_time(choose)))
            self.check(drop(table, random_time(choose)), drop(table, random_time(choose)))

    def test_differences_at_certain_times(self):
        one = ((0, (0,)),)
        for level in range(64):
            table = ((0, (0,) * level + (1,)), (1, (0,) * level + (1,)))
            self.assertTrue(is_trace(table))
            self.assertEqual(first_difference(one, table), (1,) + (0,) * level)
            self.assertEqual(first_difference(table, one), (1,) + (0,) * level)
            self.assertIsNone(first_difference(table, table))
        self.assertEqual(first_difference(((0, (0,)),), ((1, (0,)),)), ())
        for number in (1, 2, 50, 98):
            table = build_trace(0, lambda thing: int(thing == number), lambda thing, level: min(thing + 1, 99) if level == 0 else 99, 2)
            self.assertEqual(first_difference(one, table), (number,))

    def test_long_rounds(self):
        one = build_trace(0, lambda thing: int(thing % 97 == 96), lambda thing, level: (thing + 1) % 97 if level == 0 else 0, 2)
        other = build_trace(0, lambda thing: int(thing % 97 == 96), lambda thing, level: (thing + 1) % 97 if level == 0 else min(level - 1, 1), 3)
        self.assertEqual(first_difference(one, other), (1, 0, 95))
        self.assertEqual(first_difference(line_of(99, 2), line_of(100, 2)), (99,))
        self.assertEqual(compare(first_difference(staircase(64), staircase(63)), (1,) + (0,) * 63), 0)


if __name__ == "__main__":
    unittest.main()
