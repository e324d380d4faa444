"""Points 13 to 15: jumps, visited states, the height, states at times and halting times."""

import random
import unittest

from limitrun.machine import all_states, is_halted, limit_state, start_state
from limitrun.ordinals import add, is_ordinal
from limitrun.syntax import parse_program
from limitrun.tower import Tower
from reference import BLINK, CLIMB, CLIMB_AND_HALT, COUNTER, FIXED, LIMITS_COUNT, Definition, power_of, random_programs, random_time

PROGRAMS = [parse_program(text) for text in FIXED] + random_programs(random.Random(13), 150)
LARGEST = 10 ** 18 - 1


class ExampleTest(unittest.TestCase):
    def test_counter(self):
        tower = Tower(parse_program(COUNTER))
        self.assertEqual([tower.height(), tower.jump((0, 0), 1), tower.visited((0, 0), 1)], [2, (0, 1), [(0, 0), (1, 1)]])
        self.assertEqual([tower.state_after((0, 0), 1, 2), tower.state_at((0, 0), (2, 1)), tower.halting_time((0, 0))], [(0, 2), (1, 3), (2, 1)])

    def test_blink(self):
        tower = Tower(parse_program(BLINK))
        self.assertEqual([tower.height(), tower.state_at((0,), (1, 1)), tower.halting_time((0,))], [1, (1,), None])


class LevelTest(unittest.TestCase):
    def check_level(self, program, tower, definition, level):
        for state in all_states(program):
            with self.subTest(program=program, state=state, level=level):
                self.assertEqual(tower.jump(state, level), definition.jump(state, level))
                self.assertEqual(tower.visited(state, level), sorted(definition.visited(state, level)))

    def test_jumps_and_visited_states(self):
        for program in PROGRAMS:
            tower, definition = Tower(program), Definition(program)
            for level in list(range(tower.height() + 4)) + [tower.height() + 40]:
                self.check_level(program, tower, definition, level)

    def test_far_above_the_height(self):
        for program in PROGRAMS[:40]:
            tower = Tower(program)
            for state in all_states(program):
                for level in (63, 64, 1000, 10 ** 9, 10 ** 30):
                    self.assertEqual(tower.jump(state, level), tower.jump(state, tower.height()))
                    self.assertEqual(tower.visited(state, level), tower.visited(state, tower.height()))

    def test_height(self):
        for program in PROGRAMS:
            tower, definition = Tower(program), Definition(program)
            states = all_states(program)
            levels = []
            for level in range(len(states) + 6):
                levels.append([(definition.jump(state, level), definition.visited(state, level)) for state in states])
            least = min(level for level in range(len(levels)) if all(other == levels[level] for other in levels[level:]))
            with self.subTest(program=program):
                self.assertEqual(tower.height(), least)
                self.assertLessEqual(tower.height(), len(states) + 1)
                self.assertIs(type(tower.height()), int)

    def test_heights(self):
        # "set 0" without a halt leads 1 to 0 at w: so 1 has visited 0 before w^2.
        for text, height in (("var x 3..3 = 3 limit low", 0), ("var x 0..1 = 0 limit low", 0), ("var x 0..1 = 0 limit set 0", 2),
                             ("var x 0..5 = 0 limit low\nhalt 1\nx := x + 1", 0), ("var x 0..1 = 0 limit set 0\nhalt 1", 0),
                             ("var x 0..1 = 0 limit set 0\nx := 0", 1), (BLINK, 1), (COUNTER, 2), (FIXED[-1], 3)):
            with self.subTest(text=text):
                self.assertEqual(Tower(parse_program(text)).height(), height)

    def test_the_limit_of_one_halted_state(self):
        tower = Tower(parse_program("var x 0..3 = 0 limit set 0\nhalt x >= 2\nx := x + 1"))
        self.assertEqual([tower.jump((value,), 1) for value in range(4)], [(2,), (2,), (2,), (3,)])
        self.assertEqual([tower.jump((value,), 7) for value in range(4)], [(2,), (2,), (2,), (3,)])
        self.assertEqual(tower.visited((0,), 1), [(0,), (1,), (2,)])
        self.assertEqual(tower.visited((3,), 5), [(3,)])

    def test_limits_against_a_long_run(self):
        for program in PROGRAMS[:60]:
            tower = Tower(program)
            most = len(all_states(program))
            if most > 6:
                continue
            late = range(most, 2 * most + 1)
            for state in all_states(program):
                # The states at the times w*i + j for late i are those that are recurrent before w^2.
                first = {tower.state_at(state, (time,)) for time in late}
                self.assertEqual(tower.jump(state, 1), limit_state(program, sorted(first)))
                second = {tower.state_at(state, (turn, time)) for turn in late for time in range(2 * most)}
                self.assertEqual(tower.jump(state, 2), limit_state(program, sorted(second)))

    def test_a_large_height(self):
        program = parse_program(CLIMB)
        tower, definition = Tower(program), Definition(program)
        self.assertEqual(tower.height(), 30)
        self.assertEqual([tower.jump((0, 0), level) for level in range(34)], [(1, 1)] + [(min(level, 29), 0) for level in range(1, 34)])
        for level in range(34):
            self.check_level(program, tower, definition, level)

    def test_only_limits_increase_a_counter(self):
        for most in (1, 2, 9, 19):
            program = parse_program(LIMITS_COUNT.replace("9", str(most)))
            tower, definition = Tower(program), Definition(program)
            # At w the counter still stands; the step after each limit increases it.
            self.assertEqual([tower.state_at((0, 0), time)[0] for time in ((), (9,), (1, 0), (1, 1), (2, 0), (2, 1))],
                             [0, 0, 0, 1, 1, min(2, most)])
            for level in range(tower.height() + 4):
                self.check_level(program, tower, definition, level)


class ObjectTest(unittest.TestCase):
    def test_source(self):
        for program in PROGRAMS[:20]:
            self.assertEqual(Tower(program).source, program)

    def test_the_same_answers_again(self):
        for program in PROGRAMS[:30]:
            tower = Tower(program)
            states = all_states(program)

            def ask():
                rows = []
                for state in states:
                    rows.append([tower.height(), tower.halting_time(state), tower.state_at(state, (2, 0, 3)), tower.state_after(state, 1, 5)])
                    rows[-1] += [(tower.jump(state, level), tower.visited(state, level)) for level in range(5)]
                return rows

            before = ask()
            for state in states:
                for level in (0, 1, 2, 3, 60):
                    seen = tower.visited(state, level)
                    self.assertIs(type(seen), list)
                    seen.append("more")
                    seen[0] = None
                    seen.reverse()
                    del seen[1:]
            self.assertEqual(ask(), before)
            self.assertEqual(tower.source, program)

    def test_two_towers(self):
        one, other = Tower(parse_program(BLINK)), Tower(parse_program(COUNTER))
        self.assertEqual([one.height(), other.height(), one.height()], [1, 2, 1])
        self.assertEqual([one.jump((0,), 0), other.jump((0, 0), 0), one.jump((0,), 1)], [(1,), (1, 1), (0,)])


class StateTest(unittest.TestCase):
    def test_few_jumps(self):
        for program in PROGRAMS[:80]:
            tower, definition = Tower(program), Definition(program)
            for state in all_states(program):
                for level in range(tower.height() + 3):
                    expected = state
                    for count in range(12):
                        self.assertEqual(tower.state_after(state, level, count), expected, (program, state, level, count))
                        expected = definition.jump(expected, level)

    def test_many_jumps(self):
        for program in PROGRAMS[:50]:
            tower = Tower(program)
            states = all_states(program)
            for level in (0, 1, tower.height(), 50):
                column = {state: tower.jump(state, level) for state in states}
                for state in states:
                    for count in (59, 60, 61, 1000, 10 ** 9 + 7, LARGEST - 1, LARGEST):
                        self.assertEqual(tower.state_after(state, level, count), power_of(column, state, count))

    def test_a_long_cycle(self):
        tower = Tower(parse_program("var x 0..59 = 0 limit low\nx := if x = 59 then 7 else x + 1"))
        for count in (0, 1, 6, 7, 58, 59, 60, 61, 112, 113, 10 ** 17, LARGEST):
            self.assertEqual(tower.state_after((0,), 0, count), (count if count < 60 else 7 + (count - 7) % 53,))
            self.assertEqual(tower.state_at((0,), (count,) if count else ()), tower.state_after((0,), 0, count))
        self.assertEqual(tower.state_at((0,), (LARGEST, 60)), (14,))

    def test_time_zero(self):
        for program in PROGRAMS[:40]:
            tower = Tower(program)
            for state in all_states(program):
                self.assertEqual(tower.state_at(state, ()), state)

    def test_states_at_times(self):
        choose = random.Random(14)
        for program in PROGRAMS:
            tower, definition = Tower(program), Definition(program)
            for state in all_states(program):
                for turn in range(4):
                    time = random_time(choose, 6)
                    self.assertEqual(tower.state_at(state, time), definition.state_at(state, time), (program, state, time))

    def test_coefficients_of_0_inside(self):
        tower = Tower(parse_program(COUNTER))
        definition = Definition(tower.source)
        for time in ((1, 0, 0), (1, 0, 1), (2, 0, 0, 3), (1, 0, 0, 0, 0, 1), (3, 0), (1, 0, 2, 0, 1)):
            for state in all_states(tower.source):
                self.assertEqual(tower.state_at(state, time), definition.state_at(state, time))

    def test_sums_of_times(self):
        choose = random.Random(15)
        for program in PROGRAMS:
            tower = Tower(program)
            for state in all_states(program):
                one, other = random_time(choose, 5, LARGEST), random_time(choose, 5, LARGEST)
                there = tower.state_at(state, one)
                self.assertEqual(tower.state_at(state, add(one, other)), tower.state_at(there, other), (program, state, one, other))

    def test_times_of_64_coefficients(self):
        choose = random.Random(16)
        for program in PROGRAMS[:40] + [parse_program(CLIMB)]:
            tower, definition = Tower(program), Definition(program)
            state = start_state(program)
            for most in (1, 2, 5):
                time = (1,) + tuple(choose.randint(0, most) for place in range(63))
                self.assertTrue(is_ordinal(time))
                self.assertEqual(tower.state_at(state, time), definition.state_at(state, time))
            for time in ((LARGEST,) * 64, (1,) + (0,) * 63, (LARGEST,) + (0,) * 62 + (LARGEST,)):
                expected = state
                for level, count in zip(range(63, -1, -1), time):
                    expected = tower.state_after(expected, level, count)
                self.assertEqual(tower.state_at(state, time), expected)


class HaltingTest(unittest.TestCase):
    def check_time(self, program, tower, definition, state):
        time = tower.halting_time(state)
        with self.subTest(program=program, state=state, time=time):
            if time is None:
                seen = definition.visited(state, len(all_states(program)) + 3)
            else:
                self.assertTrue(is_ordinal(time))
                self.assertTrue(is_halted(program, definition.state_at(state, time)))
                for later in ((1,), (2,), (1, 0), (1, 1), (3, 0, 0), (1, 0, 0, 0, 0)):
                    self.assertEqual(tower.state_at(state, add(time, later)), definition.state_at(state, time))
                seen = definition.states_before(state, time)
            self.assertFalse([other for other in sorted(seen) if is_halted(program, other)])

    def test_all_states(self):
        for program in PROGRAMS + [parse_program(CLIMB), parse_program(CLIMB_AND_HALT)]:
            tower, definition = Tower(program), Definition(program)
            for state in all_states(program):
                self.check_time(program, tower, definition, state)

    def test_halted_at_once(self):
        tower = Tower(parse_program(COUNTER))
        self.assertEqual([tower.halting_time((0, 3)), tower.halting_time((1, 3))], [(), ()])
        self.assertEqual(Tower(parse_program("var x 0..1 = 0 limit low\nhalt 1")).halting_time((0,)), ())

    def test_after_finitely_many_steps(self):
        tower = Tower(parse_program("var x 0..59 = 0 limit low\nx := x + 1\nhalt x = 58"))
        self.assertEqual([tower.halting_time((value,)) for value in (58, 57, 1, 0, 59)], [(), (1,), (57,), (58,), None])

    def test_at_a_limit(self):
        tower = Tower(parse_program("var x 0..2 = 0 limit high\nvar y 0..1 = 0 limit keep 1\nx := 1 - min(x, 1)\ny := 1 - y\nhalt y = 1 and x = 1"))
        self.assertEqual(tower.halting_time((0, 1)), (1, 0))
        tower = Tower(parse_program("var x 0..2 = 0 limit set 2\nx := 1 - x\nhalt x = 2"))
        self.assertEqual([tower.halting_time((0,)), tower.halting_time((1,)), tower.halting_time((2,))], [(1, 0), (1, 0), ()])

    def test_behind_limits_and_at_a_limit_of_limits(self):
        tower = Tower(parse_program(COUNTER))
        self.assertEqual([tower.halting_time(state) for state in ((0, 0), (0, 1), (0, 2), (1, 0), (1, 1), (1, 2))],
                         [(2, 1), (1, 1), (1,), (3, 1), (2, 1), (1, 1)])
        text = "var n 0..{0} = 0 limit high\nvar x 0..1 = 0 limit low\nn := if x = 0 then n + 1 else 0\nx := 1 - x\nhalt n = {0} and x = {1}"
        for most in range(1, 30):
            self.assertEqual(Tower(parse_program(text.format(most, 0))).halting_time((0, 0)), (1,) + (0,) * most)
            self.assertEqual(Tower(parse_program(text.format(most, 1))).halting_time((0, 0)), (1,) if most == 1 else (1,) + (0,) * (most - 2) + (1,))

    def test_never(self):
        for text in (BLINK, CLIMB, "var x 0..3 = 0 limit low\nx := 1 - x\nhalt x = 2", "var x 0..3 = 0 limit low\nx := x + 1\nhalt 0"):
            self.assertIsNone(Tower(parse_program(text)).halting_time(start_state(parse_program(text))))

    def test_a_large_program(self):
        tower = Tower(parse_program(CLIMB_AND_HALT))
        self.assertEqual(tower.halting_time((0, 0)), (1,) + (0,) * 29)
        self.assertEqual(tower.halting_time((28, 1)), (1,) + (0,) * 29)
        self.assertEqual([tower.halting_time((29, 0)), tower.halting_time((29, 1))], [(), (1,) + (0,) * 29])


if __name__ == "__main__":
    unittest.main()
