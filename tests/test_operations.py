"""Point 21: each operation against its definition, at many times."""

import random
import unittest

from limitrun.errors import TooLong, ZeroDivisor
from limitrun.operations import combine, concat, constant, hold, map_values, repeat, sample
from limitrun.ordinals import add, compare, divide, multiply, power, subtract
from limitrun.syntax import parse_program
from limitrun.machine import all_states
from limitrun.tower import Tower
from limitrun.traces import build_trace, drop, is_trace, trace_of, value_at
from reference import COUNTER, FIXED, random_programs, random_time, smallest_table, table_jump

PROGRAMS = [parse_program(text) for text in FIXED] + random_programs(random.Random(21), 40)
LARGEST = 10 ** 18 - 1
TRACE = trace_of(Tower(parse_program(COUNTER)), (0, 0), ("name", "n"))
# 1 at time 0 alone, and 1 at the multiples of w.
FIRST = ((1, (1,)), (0, (1,)))
LIMITS = ((1, (1, 0)), (0, (1, 0)))
FIXED_TIMES = (
    (), (1,), (2,), (3,), (7,), (1, 0), (1, 1), (1, 2), (2, 0), (2, 1), (3, 5), (1, 0, 0), (1, 0, 1), (1, 1, 0), (1, 1, 1), (2, 0, 0), (2, 3, 1),
    (1, 0, 0, 0), (1, 2, 0, 1), (2, 0, 0, 0, 0), (1,) + (0,) * 63, (LARGEST,), (LARGEST, 0), (LARGEST,) * 4, (LARGEST,) * 64,
)
LENGTHS = ((1,), (2,), (3,), (1, 0), (1, 1), (1, 2), (2, 0), (2, 1), (3, 2), (1, 0, 0), (1, 0, 2), (1, 1, 0), (2, 1, 3), (1, 0, 0, 0), (1, 0, 1, 0), (4, 0, 0, 0, 5))


def some_tables(choose, number):
    tables = [TRACE, FIRST, LIMITS, constant(3)]
    while len(tables) < number:
        program = choose.choice(PROGRAMS)
        expression = choose.choice([("name", program[0][0][0]), ("name", program[0][-1][0]), ("mod", ("name", program[0][0][0]), ("int", 2))])
        tables.append(trace_of(Tower(program), choose.choice(all_states(program)), expression))
    return tables


def some_times(choose, number):
    return FIXED_TIMES + tuple(random_time(choose, 6, choose.choice([3, 20, LARGEST])) for turn in range(number))


def large_table():
    """A table of 99 rows with 64 jumps: a round of 36 steps, and 63 rows for the limits."""
    def jump_of(thing, level):
        if level > 0:
            return 35 + level
        return (thing + 1) % 36 if thing < 36 else 0

    return build_trace(0, lambda thing: int(thing == 0) if thing < 36 else thing, jump_of, 64)


class OperationTest(unittest.TestCase):
    def setUp(self):
        self.choose = random.Random(self.id())

    def check(self, table, value_of, times):
        """The table is canonical, and its value at each time is the one of the definition."""
        self.assertEqual(table, smallest_table(0, lambda row: table[row][0], lambda row, level: table_jump(table, row, level), len(table[0][1])))
        if len(table) <= 100 and len(table[0][1]) <= 64:
            self.assertTrue(is_trace(table))
        for time in times:
            self.assertEqual(value_at(table, time), value_of(time), time)


class ExampleTest(unittest.TestCase):
    def test_examples(self):
        self.assertEqual(concat(constant(1), (2,), constant(0)), ((1, (1, 2)), (1, (2, 2)), (0, (2, 2))))
        self.assertEqual(repeat(concat(constant(1), (1,), constant(0)), (1, 0)), ((1, (1, 0)), (0, (1, 0))))
        self.assertEqual(hold(concat(constant(1), (1,), constant(0)), (1, 0)), ((1, (0, 1)), (0, (1, 1))))
        self.assertEqual(sample(repeat(concat(constant(1), (1,), constant(0)), (1, 0)), 1), ((1, (0,)),))
        with self.assertRaises(ZeroDivisor):
            hold(constant(1), ())


class SimpleTest(OperationTest):
    def test_constant(self):
        for value in (0, 1, -7, 10 ** 30):
            self.assertEqual(constant(value), ((value, (0,)),))

    def test_map_values(self):
        for table in some_tables(self.choose, 60):
            for pairs in ((), ((0, 5),), ((0, 1), (1, 0)), ((1, 2), (2, 1), (3, 1)), [(9, 7), (0, 9)], [[0, 3], [1, 3], [2, 3]], ((77, 1), (78, 2))):
                mapping = {old: new for old, new in pairs}
                self.check(map_values(table, pairs), lambda time: mapping.get(value_at(table, time), value_at(table, time)), some_times(self.choose, 8))
            self.assertEqual(map_values(table, ()), table)
            self.assertEqual(map_values(table, [(-77, 5)]), table)
            self.assertEqual(map_values(table, [(value, 4) for value in range(-5, 20)]), constant(4))

    def test_map_values_at_once(self):
        self.assertEqual(map_values(LIMITS, ((1, 0), (0, 1))), ((0, (1, 0)), (1, (1, 0))))
        self.assertEqual(map_values(LIMITS, [(1, 2), (2, 5)]), ((2, (1, 0)), (0, (1, 0))))
        self.assertEqual(map_values(LIMITS, [(1, 0)]), ((0, (0,)),))
        pairs = [(1, 0), (0, 5)]
        map_values(LIMITS, pairs)
        self.assertEqual(pairs, [(1, 0), (0, 5)])

    def test_combine(self):
        tables = some_tables(self.choose, 60)
        for turn in range(120):
            one, other = self.choose.choice(tables), self.choose.choice(tables)
            for how, work in (("min", min), ("max", max), ("sum", lambda first, second: first + second), ("same", lambda first, second: int(first == second))):
                self.check(combine(one, other, how), lambda time: work(value_at(one, time), value_at(other, time)), some_times(self.choose, 8))

    def test_combine_with_itself(self):
        for table in some_tables(self.choose, 40):
            self.assertEqual([combine(table, table, how) for how in ("min", "max", "same")], [table, table, constant(1)])
            self.assertEqual(combine(table, constant(0), "sum"), table)
            self.assertEqual(combine(table, map_values(table, [(value, -value) for value in range(-9, 30)]), "sum"), constant(0))

    def test_values_of_combine(self):
        for first in (-3, 0, 4):
            for second in (-3, 0, 4):
                one, other = constant(first), constant(second)
                self.assertEqual([combine(one, other, how)[0][0] for how in ("min", "max", "sum", "same")],
                                 [min(first, second), max(first, second), first + second, int(first == second)])
                self.assertIs(type(combine(one, other, "same")[0][0]), int)

    def test_sample(self):
        for table in some_tables(self.choose, 60):
            for level in (0, 1, 2, 3, len(table[0][1]) - 1, len(table[0][1]), 62, 63):
                self.check(sample(table, level), lambda time: value_at(table, multiply(power(level), time)), some_times(self.choose, 8))
            self.assertEqual(sample(table, 0), table)
            self.assertEqual(sample(sample(table, 1), 2), sample(table, 3))
            self.assertEqual(len(sample(table, 63)[0][1]), 1)


class ConcatTest(OperationTest):
    def test_values(self):
        tables = some_tables(self.choose, 60)
        for turn in range(250):
            first, second = self.choose.choice(tables), self.choose.choice(tables)
            length = self.choose.choice(LENGTHS + ((),))

            def value_of(time):
                if compare(time, length) < 0:
                    return value_at(first, time)
                return value_at(second, subtract(time, length))

            near = [time for time in (add(length, (1,)), add(length, (1, 0)), length) if time]
            self.check(concat(first, length, second), value_of, some_times(self.choose, 20) + tuple(near))

    def test_concat_and_drop(self):
        tables = some_tables(self.choose, 60)
        for turn in range(150):
            first, second = self.choose.choice(tables), self.choose.choice(tables)
            length = self.choose.choice(LENGTHS + ((),))
            self.assertEqual(drop(concat(first, length, second), length), second)
            self.assertEqual(concat(first, length, drop(first, length)), first)
            self.assertEqual(concat(first, (), second), second)

    def test_a_single_time(self):
        self.assertEqual(concat(constant(1), (1,), constant(0)), FIRST)
        self.assertEqual(concat(constant(0), (1, 0), constant(1)), ((0, (0, 1)), (1, (1, 1))))
        self.assertEqual(concat(constant(1), (1,), constant(1)), constant(1))
        self.assertEqual(concat(FIRST, (1, 0, 0), LIMITS), ((1, (1, 1, 2)), (0, (1, 1, 2)), (1, (3, 2, 2)), (0, (3, 2, 2))))


class RepeatTest(OperationTest):
    def test_values(self):
        tables = some_tables(self.choose, 60)
        for turn in range(250):
            table, length = self.choose.choice(tables), self.choose.choice(LENGTHS)
            times = some_times(self.choose, 20)
            times = times + tuple(multiply(length, time) for time in times[:-5]) + tuple(add(multiply(length, time), (1,)) for time in times[:-5])
            self.check(repeat(table, length), lambda time: value_at(table, divide(time, length)[1]), times)

    def test_what_is_known(self):
        for table in some_tables(self.choose, 40):
            self.assertEqual(repeat(table, (1,)), constant(table[0][0]))
            for length in LENGTHS:
                repeated = repeat(table, length)
                self.assertEqual(drop(repeated, length), repeated)
                self.assertEqual(concat(table, length, repeated), repeated)
                self.assertEqual(repeat(repeated, length), repeated)
        self.assertEqual(repeat(FIRST, (3,)), ((1, (1, 0)), (0, (2, 0)), (0, (0, 0))))


class HoldTest(OperationTest):
    def test_values(self):
        tables = some_tables(self.choose, 60)
        for turn in range(250):
            table, length = self.choose.choice(tables), self.choose.choice(LENGTHS)
            times = some_times(self.choose, 20)
            times = times + tuple(multiply(length, time) for time in times[:-5]) + tuple(add(multiply(length, time), (1,)) for time in times[:-5])
            self.check(hold(table, length), lambda time: value_at(table, divide(time, length)[0]), times)

    def test_what_is_known(self):
        for table in some_tables(self.choose, 40):
            self.assertEqual(hold(table, (1,)), table)
            for level in (1, 2, 5):
                self.assertEqual(sample(hold(table, power(level)), level), table)
            self.assertEqual(hold(hold(table, (2, 1)), (1, 3)), hold(table, multiply((1, 3), (2, 1))))
        self.assertEqual(hold(constant(4), (3, 0, 2)), constant(4))
        self.assertEqual(hold(FIRST, (2,)), ((1, (1, 2)), (1, (2, 2)), (0, (2, 2))))


class ErrorTest(unittest.TestCase):
    ALLOWED = ((50,), (25, 25), (1,) * 50, (50,) + (0,) * 63, (1,) + (0,) * 62 + (49,), (49, 0, 1))
    REFUSED = ((51,), (26, 25), (1,) * 51, (51,) + (0,) * 63, (1,) + (0,) * 62 + (50,), (LARGEST,), (LARGEST,) * 64, (1, 0, 50))

    def test_long_times(self):
        for function in (lambda time: concat(TRACE, time, LIMITS), lambda time: repeat(TRACE, time), lambda time: hold(TRACE, time)):
            for time in self.ALLOWED:
                function(time)
            for time in self.REFUSED:
                with self.assertRaises(TooLong) as caught:
                    function(time)
                self.assertEqual(caught.exception.limit, 50)

    def test_before_anything_else(self):
        for function in (lambda: concat(None, (51,), None), lambda: repeat((), (51,)), lambda: hold(None, (1, 50))):
            with self.assertRaises(TooLong):
                function()

    def test_time_0(self):
        for function in (repeat, hold):
            with self.assertRaises(ZeroDivisor):
                function(TRACE, ())
        self.assertEqual(concat(TRACE, (), LIMITS), LIMITS)

    def test_allowed_times_have_right_values(self):
        choose = random.Random(22)
        for length in self.ALLOWED:
            together, repeated, held = concat(TRACE, length, LIMITS), repeat(TRACE, length), hold(TRACE, length)
            for time in FIXED_TIMES + tuple(random_time(choose, 52, 3) for turn in range(10)):
                quotient, rest = divide(time, length)
                expected = value_at(TRACE, time) if compare(time, length) < 0 else value_at(LIMITS, subtract(time, length))
                self.assertEqual([value_at(together, time), value_at(repeated, time), value_at(held, time)],
                                 [expected, value_at(TRACE, rest), value_at(TRACE, quotient)])


class LargeTest(unittest.TestCase):
    LENGTHS = ((50,), (1,) * 50, (1,) + (0,) * 13 + (1,) * 49 + (0,), (1, 0, 49))

    def test_large_tables(self):
        table, choose = large_table(), random.Random(23)
        self.assertEqual([is_trace(table), len(table), len(table[0][1])], [True, 99, 64])
        times = FIXED_TIMES + tuple(random_time(choose, 64, LARGEST) for turn in range(20)) + tuple(random_time(choose, 5, 40) for turn in range(20))
        for length in self.LENGTHS:
            together, repeated, held = concat(table, length, LIMITS), repeat(table, length), hold(table, length)
            for time in times:
                quotient, rest = divide(time, length)
                expected = value_at(table, time) if compare(time, length) < 0 else value_at(LIMITS, subtract(time, length))
                self.assertEqual([value_at(together, time), value_at(repeated, time), value_at(held, time)],
                                 [expected, value_at(table, rest), value_at(table, quotient)])

    def test_many_pairs_of_rows(self):
        one = build_trace(0, lambda thing: int(thing == 0), lambda thing, level: (thing + 1) % 99 if level == 0 else 3 * level, 5)
        other = build_trace(0, lambda thing: int(thing == 1), lambda thing, level: (thing + 1) % 100 if level == 0 else 7 * level, 9)
        self.assertEqual([len(one), len(other)], [99, 100])
        both = combine(one, other, "sum")
        self.assertEqual(len(both), 9900)
        for time in FIXED_TIMES + ((98,), (99,), (100,), (101,), (9900,), (1, 9801), (1, 0, 98)):
            self.assertEqual(value_at(both, time), value_at(one, time) + value_at(other, time))
        self.assertEqual(len(combine(large_table(), large_table(), "sum")), 99)
        self.assertEqual(combine(large_table(), large_table(), "same"), constant(1))
        for level in (0, 1, 30, 62, 63):
            sampled = sample(large_table(), level)
            for time in FIXED_TIMES:
                self.assertEqual(value_at(sampled, time), value_at(large_table(), multiply(power(level), time)))


if __name__ == "__main__":
    unittest.main()
