"""Point 22: events of traces, their counts and numbers, and the traces that are selected by them."""

import random
import time as clock
import unittest

from limitrun.errors import LimitRunError, NoEvent
from limitrun.events import count_events, next_event, nth_event, select, total_events
from limitrun.machine import all_states
from limitrun.operations import combine, concat, constant, hold, map_values, repeat
from limitrun.ordinals import add, compare, is_ordinal, multiply, power, subtract
from limitrun.syntax import parse_program
from limitrun.tower import Tower
from limitrun.traces import build_trace, drop, is_trace, trace_of, value_at
from reference import CLIMB, CLIMB_AND_HALT, COUNTER, FIXED, Counting, random_programs, random_time, rows_walk, smallest_table, table_jump

PROGRAMS = [parse_program(text) for text in FIXED] + random_programs(random.Random(31), 60)
LARGEST = 10 ** 18 - 1
NOWHERE = 777
FIRST = ((1, (1,)), (0, (1,)))
LIMITS = ((1, (1, 0)), (0, (1, 0)))
TRACE = trace_of(Tower(parse_program(COUNTER)), (0, 0), ("name", "n"))
LENGTHS = ((2,), (3,), (1, 0), (1, 2), (2, 1), (1, 0, 0), (1, 0, 1), (2, 3, 0), (1, 0, 0, 2))
FIXED_TIMES = (
    (), (1,), (2,), (5,), (50,), (LARGEST,), (1, 0), (1, 1), (1, 2), (2, 0), (3, 7), (LARGEST, 0), (LARGEST, LARGEST), (1, 0, 0), (1, 0, 1),
    (1, 1, 0), (1, 1, 1), (2, 0, 5), (4, 3, 2), (1, 0, 0, 0), (1, 0, 2, 0, 3), (1,) + (0,) * 12, (2, 5) + (0,) * 20 + (7,), (1,) + (0,) * 63,
    (1,) + (0,) * 62 + (1,), (3,) * 64, (LARGEST,) * 64,
)


def climbing_tables():
    """The tables of runs whose heights are about thirty."""
    tables = []
    for text in (CLIMB, CLIMB_AND_HALT):
        program = parse_program(text)
        for expression in (("name", "n"), ("name", "x"), ("=", ("mod", ("name", "n"), ("int", 7)), ("int", 3))):
            tables.append(trace_of(Tower(program), (0, 0), expression))
    return tables


def large_table(distinct):
    """A table of 99 rows with 64 jumps: a round of 36 steps, and 63 rows for the limits."""
    def jump_of(thing, level):
        if level > 0:
            return 35 + level
        return (thing + 1) % 36 if thing < 36 else 0

    def value_of(thing):
        return int(thing == 0) if thing < 36 and not distinct else thing

    return build_trace(0, value_of, jump_of, 64)


def some_tables(choose, number):
    """Tables of runs, and tables that the operations make from them."""
    tables = [FIRST, LIMITS, TRACE, constant(1), constant(0)]
    while len(tables) < number:
        program = choose.choice(PROGRAMS)
        expression = choose.choice([("name", program[0][0][0]), ("name", program[0][-1][0]), ("mod", ("name", program[0][0][0]), ("int", 2))])
        table = trace_of(Tower(program), choose.choice(all_states(program)), expression)
        other, length = choose.choice(tables), choose.choice(LENGTHS)
        table = choose.choice([table, table, repeat(table, length), hold(table, length), concat(table, length, other), combine(table, other, "sum")])
        if len(table) <= 60:
            tables.append(table)
    return tables


def some_values(choose, table):
    """Tuples of values of which none, one, several or all occur in the table."""
    own = sorted({row[0] for row in table})
    several = tuple(choose.sample(own, choose.randint(1, len(own))))
    return [(), (NOWHERE,), (choose.choice(own),), (NOWHERE, choose.choice(own)), several, several + several[:1], tuple(own), tuple(own) + (NOWHERE, -NOWHERE)]


def some_times(choose, number):
    return FIXED_TIMES + tuple(random_time(choose, choose.choice([3, 6]), choose.choice([2, 4, 30, LARGEST])) for turn in range(number))


def counting(table, values):
    return Counting(rows_walk(table), lambda row: table[row][0] in values)


class EventTest(unittest.TestCase):
    def setUp(self):
        self.choose = random.Random(self.id())

    def cases(self, number):
        """Tables with values and with their counting by the definition."""
        for table in some_tables(self.choose, number) + climbing_tables():
            for values in some_values(self.choose, table):
                yield table, values, counting(table, values)


class ExampleTest(unittest.TestCase):
    def test_multiples_of_w(self):
        trace = repeat(concat(constant(1), (1,), constant(0)), (1, 0))
        self.assertEqual([count_events(trace, (1,), (1, 0, 3)), nth_event(trace, (1,), (1, 2)), nth_event(trace, (0,), (1, 2))],
                         [(1, 1), (1, 2, 0), (1, 3)])

    def test_a_counter(self):
        # n is 0 at 0, 1 before w and at w, 2 until w*2, and 3 behind w*2.
        self.assertEqual([next_event(TRACE, (value,), ()) for value in (0, 1, 2, 3)], [(), (1,), (1, 1), (2, 1)])
        self.assertEqual([total_events(TRACE, (value,)) for value in (0, 1, 2, 3)], [(1,), (1, 1), (1, 1), None])
        self.assertEqual(total_events(TRACE, (1, 2)), (2, 1))
        self.assertEqual(nth_event(TRACE, (2,), (1, 0)), (2, 0))
        self.assertEqual(select(TRACE, (2, 3), 9), ((2, (0, 1, 2)), (2, (2, 2, 2)), (3, (2, 2, 2))))
        self.assertEqual(select(TRACE, (1,), 9), ((1, (0, 1, 2)), (1, (2, 2, 2)), (9, (2, 2, 2))))


class NextTest(EventTest):
    def test_the_least_event(self):
        for table, values, counts in self.cases(50):
            walk = rows_walk(table)
            for time in self.choose.sample(some_times(self.choose, 6), 12):
                found = next_event(table, values, time)
                start = self.row_after(table, time)
                if found is None:
                    self.assertFalse(walk.visited(start, len(table[0][1]) + 1) & {row for row in range(len(table)) if table[row][0] in values})
                    continue
                self.assertTrue(is_ordinal(found) or len(time) > 63 or max(time) > 10 ** 17)
                self.assertGreaterEqual(compare(found, time), 0)
                self.assertIn(value_at(table, found), values)
                for row in walk.before(start, subtract(found, time)):
                    self.assertNotIn(table[row][0], values)

    def row_after(self, table, time):
        """The row of a table from a time on; a drop keeps the order of no rows."""
        row = 0
        counts = counting(table, ())
        for level, jumps in zip(range(len(time) - 1, -1, -1), time):
            for exponent in range(jumps.bit_length()):
                if jumps >> exponent & 1:
                    row = counts.doubled_jump(row, level, exponent)[0]
        return row

    def test_from_the_event_itself(self):
        for table, values, counts in self.cases(30):
            time = ()
            for turn in range(5):
                found = next_event(table, values, time)
                if found is None:
                    self.assertEqual(total_events(table, values), count_events(table, values, time))
                    break
                self.assertEqual(next_event(table, values, found), found)
                self.assertEqual(found == time, value_at(table, time) in values)
                time = add(found, self.choose.choice([(1,), (1,), (1, 0), (1, 0, 0)]))

    def test_none(self):
        for table in (FIRST, LIMITS, TRACE, constant(4), large_table(False)):
            for time in FIXED_TIMES:
                self.assertIsNone(next_event(table, (), time))
                self.assertIsNone(next_event(table, (NOWHERE, -1), time))
        self.assertEqual(next_event(FIRST, (1,), ()), ())
        for time in FIXED_TIMES[1:]:
            self.assertIsNone(next_event(FIRST, (1,), time))
            self.assertEqual(next_event(FIRST, (0, 1), time), time)
        self.assertEqual(next_event(FIRST, (0,), ()), (1,))

    def test_multiples_of_powers(self):
        for level in (1, 2, 5, 30, 63):
            table = repeat(FIRST, power(level))
            self.assertEqual(next_event(table, (1,), ()), ())
            self.assertEqual(next_event(table, (1,), (1,)), power(level))
            self.assertEqual(next_event(table, (1,), add(power(level, 5), (3,))), power(level, 6))
            self.assertEqual(next_event(table, (1,), power(level, LARGEST)), power(level, LARGEST))
            self.assertEqual(next_event(table, (1,), add(power(level, LARGEST), (1,))), power(level, LARGEST + 1))


class CountTest(EventTest):
    def test_counts_by_the_definition(self):
        for table, values, counts in self.cases(60):
            for time in self.choose.sample(FIXED_TIMES, 14) + list(some_times(self.choose, 4)[-4:]):
                self.assertEqual(count_events(table, values, time), counts.before(0, time))

    def test_one_step(self):
        for table, values, counts in self.cases(40):
            self.assertEqual(count_events(table, values, ()), ())
            for time in self.choose.sample(some_times(self.choose, 6), 12):
                before = count_events(table, values, time)
                behind = count_events(table, values, add(time, (1,)))
                self.assertEqual(behind, add(before, (1,)) if value_at(table, time) in values else before)

    def test_limits(self):
        # So many jumps lead a table of at most 12 rows from any row round to a row that it comes back to.
        turns = 2 * 2 * 2 * 3 * 3 * 5 * 7 * 11
        for table, values, counts in self.cases(25):
            for base in self.choose.sample(some_times(self.choose, 6), 4):
                for level in (0, 1, self.choose.choice((2, 3, 31, 63))):
                    one, two, three = [count_events(table, values, add(base, power(level, turns * turn))) for turn in (1, 2, 3)]
                    limit = count_events(table, values, add(base, power(level + 1)))
                    # No earlier count exceeds the one at the limit.
                    self.assertLessEqual(compare(three, limit), 0)
                    if len(table) <= 12:
                        # They grow by the same, turn by turn: so none less than this one is enough.
                        more = subtract(two, one)
                        self.assertEqual(three, add(two, more))
                        self.assertEqual(limit, add(one, multiply(more, (1, 0))))

    def test_the_count_never_falls(self):
        for table, values, counts in self.cases(30):
            last = ()
            order = sorted(some_times(self.choose, 6), key=lambda time: (len(time), time))
            for time in order:
                found = count_events(table, values, time)
                self.assertGreaterEqual(compare(found, last), 0)
                self.assertLessEqual(compare(found, time), 0)
                last = found

    def test_all_times_and_no_times(self):
        for table in some_tables(self.choose, 30):
            own = tuple({row[0] for row in table})
            for time in FIXED_TIMES:
                self.assertEqual(count_events(table, own, time), time)
                self.assertEqual(count_events(table, (), time), ())
                self.assertEqual(count_events(table, (NOWHERE,), time), ())

    def test_counts_of_parts(self):
        for table, values, counts in self.cases(30):
            for turn in range(4):
                first, second = random_time(self.choose), random_time(self.choose)
                self.assertEqual(count_events(table, values, add(first, second)),
                                 add(count_events(table, values, first), count_events(drop(table, first), values, second)))

    def test_known_counts(self):
        self.assertEqual([count_events(LIMITS, (1,), time) for time in ((1,), (7,), (1, 0), (1, 1), (5, 0), (5, 3), (1, 0, 0), (2, 0, 3))],
                         [(1,), (1,), (1,), (2,), (5,), (6,), (1, 0), (2, 1)])
        self.assertEqual([count_events(LIMITS, (0,), time) for time in ((1,), (7,), (1, 0), (1, 1), (5, 0), (5, 3), (1, 0, 0), (2, 0, 3))],
                         [(), (6,), (1, 0), (1, 0), (5, 0), (5, 2), (1, 0, 0), (2, 0, 2)])
        # Exponents beyond the columns: the multiples of w before w^63.
        self.assertEqual(count_events(LIMITS, (1,), (1,) + (0,) * 63), (1,) + (0,) * 62)
        self.assertEqual(count_events(LIMITS, (1,), (LARGEST,) * 64), (LARGEST,) * 62 + (LARGEST + 1,))
        self.assertEqual(count_events(hold(FIRST, (LIMITS and 5, 3)), (1,), (1, 0, 0)), (5, 3))


class TotalTest(EventTest):
    def test_total(self):
        for table, values, counts in self.cases(80):
            total = total_events(table, values)
            last = len(table[0][1]) - 1
            ends = [counts.before_power(0, level) for level in range(last, last + 6)]
            if total is None:
                self.assertEqual(sorted({len(end) for end in ends[1:]}), list(range(len(ends[1]), len(ends[1]) + 5)))
            else:
                self.assertEqual(ends, [total] * 6)
            self.assertEqual(total is None, next_event(table, values, (LARGEST,) * 64) is not None)

    def test_known_totals(self):
        self.assertEqual([total_events(FIRST, values) for values in ((1,), (0,), (0, 1), (), (2,))], [(1,), None, None, (), ()])
        for time in ((1,), (5,), (1, 0), (2, 3), (1, 0, 0, 4), (50,) + (0,) * 63):
            self.assertEqual(total_events(concat(constant(1), time, constant(0)), (1,)), time)
            self.assertIsNone(total_events(concat(constant(1), time, constant(0)), (0,)))
            self.assertEqual(total_events(concat(LIMITS, multiply((1, 0), time), constant(2)), (1,)), time)
        self.assertEqual(total_events(constant(3), (3,)), None)
        self.assertEqual(total_events(constant(3), (4,)), ())


class NumberTest(EventTest):
    def test_the_event_with_a_number(self):
        for table, values, counts in self.cases(50):
            total = total_events(table, values)
            for index in self.choose.sample(some_times(self.choose, 6), 12):
                if total is not None and compare(index, total) >= 0:
                    with self.assertRaises(NoEvent):
                        nth_event(table, values, index)
                    continue
                time = nth_event(table, values, index)
                self.assertIn(value_at(table, time), values)
                self.assertEqual(counts.before(0, time), index)
                self.assertEqual(count_events(table, values, time), index)
                self.assertEqual(next_event(table, values, time), time)
                self.assertGreaterEqual(compare(time, index), 0)

    def test_the_number_of_an_event(self):
        for table, values, counts in self.cases(40):
            for time in some_times(self.choose, 4):
                if value_at(table, time) in values:
                    self.assertEqual(nth_event(table, values, count_events(table, values, time)), time)

    def test_at_the_total(self):
        found = 0
        for table, values, counts in self.cases(80):
            total = total_events(table, values)
            if total is None:
                continue
            found += total != ()
            for index in (total, add(total, (1,)), add(total, (1, 0)), add(total, (1,) + (0,) * 63)):
                with self.assertRaises(NoEvent):
                    nth_event(table, values, index)
            # The last events: below the total without its last one, or at any time below it.
            for index in ((), (1,), (7,), (1, 0), (3, 2), (1, 0, 5), total[:-1] + (max(0, total[-1] - 1),) if total else ()):
                if compare(index, total) < 0 and (not index or index[0]):
                    self.assertEqual(count_events(table, values, nth_event(table, values, index)), index)
        self.assertGreater(found, 30)

    def test_in_order_without_a_gap(self):
        for table, values, counts in self.cases(40):
            total = total_events(table, values)
            for index in ((), (3,), (1, 0), (2, 0), (1, 0, 0), random_time(self.choose), random_time(self.choose)):
                if total is not None and compare(add(index, (1,)), total) >= 0:
                    continue
                time = nth_event(table, values, index)
                self.assertEqual(nth_event(table, values, add(index, (1,))), next_event(table, values, add(time, (1,))))

    def test_errors(self):
        for values in ((), (NOWHERE,)):
            for index in FIXED_TIMES:
                with self.assertRaises(NoEvent) as caught:
                    nth_event(LIMITS, values, index)
                self.assertIsInstance(caught.exception, LimitRunError)
        self.assertEqual(nth_event(FIRST, (1,), ()), ())
        with self.assertRaises(NoEvent):
            nth_event(FIRST, (1,), (1,))

    def test_known_events(self):
        self.assertEqual([nth_event(LIMITS, (1,), index) for index in ((), (1,), (9,), (1, 0), (2, 5), (1,) + (0,) * 63)],
                         [(), (1, 0), (9, 0), (1, 0, 0), (2, 5, 0), (1,) + (0,) * 64])
        self.assertEqual([nth_event(LIMITS, (0,), index) for index in ((), (1,), (9,), (1, 0), (2, 5), (1, 0, 0))],
                         [(1,), (2,), (10,), (1, 1), (2, 6), (1, 0, 1)])
        self.assertEqual(nth_event(constant(5), (5,), (LARGEST,) * 64), (LARGEST,) * 64)
        self.assertEqual(nth_event(repeat(FIRST, power(63)), (1,), power(63, LARGEST)), power(126, LARGEST))


class SelectTest(EventTest):
    def test_values(self):
        for table, values, counts in self.cases(60):
            rest = self.choose.choice([NOWHERE, 0, 1, table[0][0]])
            selected = select(table, values, rest)
            self.assertEqual(selected, smallest_table(0, lambda row: selected[row][0], lambda row, level: table_jump(selected, row, level),
                                                      len(selected[0][1])))
            self.assertTrue(is_trace(selected))
            total = total_events(table, values)
            times = some_times(self.choose, 4)
            if total is not None and total != ():
                times += (total, total[:-1] + (total[-1] + 1,), add(total, (1, 0)))
            for time in times:
                expected = rest
                if total is None or compare(time, total) < 0:
                    expected = value_at(table, nth_event(table, values, time))
                self.assertEqual(value_at(selected, time), expected, (table, values, time))

    def test_no_event(self):
        for table in (FIRST, LIMITS, TRACE, large_table(True)):
            for rest in (0, 5, -3):
                self.assertEqual(select(table, (), rest), constant(rest))
                self.assertEqual(select(table, (NOWHERE,), rest), constant(rest))

    def test_all_events(self):
        for table in some_tables(self.choose, 40) + climbing_tables():
            own = tuple({row[0] for row in table})
            self.assertEqual(select(table, own, NOWHERE), table)
            for value in own:
                one = select(table, (value,), NOWHERE)
                total = total_events(table, (value,))
                self.assertEqual(one, constant(value) if total is None else self.held(value, total))
                self.assertEqual(select(table, (value,), value), constant(value))

    def held(self, value, total):
        """The table that has the value before the total, and NOWHERE from it on."""
        if sum(total) > 50:
            self.skipTest("the total is too long")
        return concat(constant(value), total, constant(NOWHERE))

    def test_known_tables(self):
        self.assertEqual(select(LIMITS, (1,), 7), constant(1))
        self.assertEqual(select(LIMITS, (0, 1), 7), LIMITS)
        self.assertEqual(select(FIRST, (1,), 7), ((1, (1,)), (7, (1,))))
        # 2 at w^2*n alone, 1 at the other multiples of w: without the zeros between them.
        trace = combine(LIMITS, repeat(FIRST, (1, 0, 0)), "sum")
        self.assertEqual(select(trace, (1, 2), 7), map_values(LIMITS, ((1, 2), (0, 1))))
        self.assertEqual(select(trace, (0, 2), 7), map_values(repeat(FIRST, (1, 0, 0)), ((1, 2),)))
        self.assertEqual(select(concat(trace, (1, 0, 0), constant(5)), (1, 5), 7), concat(constant(1), (1, 0), constant(5)))


class SameArgumentsTest(EventTest):
    def test_asked_again(self):
        for table, values, counts in self.cases(10):
            def ask():
                return [next_event(table, values, (1, 1)), count_events(table, values, (3, 0, 2)), total_events(table, values), select(table, values, 6)]

            before, same = ask(), repr((table, values))
            self.assertEqual(ask(), before)
            self.assertEqual(repr((table, values)), same)


class LargeTest(unittest.TestCase):
    def test_large_tables(self):
        begin = clock.perf_counter()
        for table in (large_table(False), large_table(True)):
            self.assertEqual([is_trace(table), len(table), len(table[0][1])], [True, 99, 64])
            for values in ((0,), (1,), (98,), (36, 60, 98), tuple(range(36, 99)), tuple(range(0, 99, 2))):
                selected = select(table, values, NOWHERE)
                total = total_events(table, values)
                for time in FIXED_TIMES[::7] + FIXED_TIMES[-1:]:
                    count = count_events(table, values, time)
                    found = next_event(table, values, time)
                    if found is not None:
                        self.assertEqual(nth_event(table, values, count), found)
                        self.assertEqual(count_events(table, values, found), count)
                    if total is None or compare(time, total) < 0:
                        event = nth_event(table, values, time)
                        self.assertEqual(count_events(table, values, event), time)
                        self.assertEqual(value_at(selected, time), value_at(table, event))
                    else:
                        self.assertEqual(value_at(selected, time), NOWHERE)
        self.assertLess(clock.perf_counter() - begin, 60)

    def test_a_round_of_a_hundred_steps(self):
        table = build_trace(0, lambda thing: thing, lambda thing, level: (thing + 1) % 100 if level == 0 else 0, 2)
        self.assertEqual(len(table), 100)
        for number in (0, 1, 99):
            self.assertEqual(nth_event(table, (number,), (LARGEST,)), (LARGEST * 100 + number,))
            self.assertEqual(count_events(table, (number,), (LARGEST * 100 + number,)), (LARGEST,))
            self.assertEqual(nth_event(table, (number,), (LARGEST, 5)), (LARGEST, 500 + number))
        self.assertEqual(count_events(table, (3, 4, 5), (LARGEST,)), (3 * (LARGEST // 100) + 3,))
        self.assertEqual(select(table, tuple(range(50)), 7)[49], (49, (0, 0)))


if __name__ == "__main__":
    unittest.main()
