"""The tower of a program: its runs by jumps over powers of w."""

from limitrun.levels import all_levels, states_in
from limitrun.machine import all_states, is_halted, values_in
from limitrun.orbits import find_orbit, follow
from limitrun.ordinals import add, degree, power
from limitrun.syntax import evaluate


class Tower:
    """The jumps and the visited states of a program at all levels."""

    def __init__(self, program):
        self.source = program
        self.states = all_states(program)
        self.numbers = {state: number for number, state in enumerate(self.states)}
        self.levels = all_levels(program, self.states)
        self.halted = self.sight_of([state for state in self.states if is_halted(program, state)])

    def height(self):
        """Return the level from which on all levels are the same."""
        return len(self.levels) - 1

    def known_level(self, level):
        """Return the jumps and the sights at any level."""
        return self.levels[min(level, len(self.levels) - 1)]

    def jump(self, state, level):
        """Return the state at time w^level in the run from a state."""
        jumps, sights = self.known_level(level)
        return self.states[jumps[self.numbers[state]]]

    def visited(self, state, level):
        """Return the list of the states at all times before w^level, in ascending order."""
        jumps, sights = self.known_level(level)
        return states_in(self.states, sights[self.numbers[state]])

    def jump_orbit(self, state, level):
        """Return the stem and the cycle of a state and its jumps at one level."""
        return find_orbit(lambda reached: self.jump(reached, level), state)

    def state_after(self, state, level, count):
        """Return the state after count jumps at one level."""
        return follow(lambda reached: self.jump(reached, level), state, count)

    def state_at(self, state, time):
        """Return the state at a time in the run from a state."""
        for place, count in enumerate(time):
            state = self.state_after(state, degree(time) - place, count)
        return state

    def halting_time(self, state):
        """Return the least time at which the state is halted, or None."""
        return self.first_time(state, self.halted)

    def sight_of(self, states):
        """Return the sight of some states that differ: a set of states as in the levels."""
        return sum([1 << self.numbers[state] for state in states])

    def sight_where(self, expression):
        """Return the sight of the states in which an expression is not 0."""
        values = [evaluate(expression, values_in(self.source, state)) for state in self.states]
        return self.sight_of([state for state, value in zip(self.states, values) if value != 0])

    def is_in(self, state, sight):
        """Return whether a state belongs to a sight."""
        return (sight >> self.numbers[state]) & 1 == 1

    def first_time(self, state, sight):
        """Return the least time at which the state in the run belongs to a sight, or None."""
        number = self.numbers[state]
        if not self.levels[-1][1][number] & sight:
            return None
        time = ()
        for level in reversed(range(len(self.levels))):
            # Such a state is visited before w^(level + 1): so one of the
            # jumps at this level starts a stretch that visits one.
            jumps, sights = self.levels[level]
            count = 0
            while not sights[number] & sight:
                number = jumps[number]
                count += 1
            time = add(time, power(level, count))
        return time
