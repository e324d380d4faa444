"""The tower of a program: its runs by jumps over powers of w."""

from limitrun.levels import all_levels, states_in
from limitrun.machine import all_states, is_halted
from limitrun.orbits import find_orbit, follow
from limitrun.ordinals import add, degree, power


class Tower:
    """The jumps and the visited states of a program at all levels."""

    def __init__(self, program):
        self.source = program
        self.states = all_states(program)
        self.numbers = {state: number for number, state in enumerate(self.states)}
        self.levels = all_levels(program, self.states)
        # A sight, as in the levels: the halted states.
        self.halted = sum([1 << number for state, number in self.numbers.items() if is_halted(program, state)])

    def height(self):
        """Return the level from which on all levels are the same."""
        return len(self.levels) - 1

    def known_level(self, level):
        """Return the jumps and the sights at any level."""
        return self.levels[min(level, len(self.levels) - 1)]

    def jump(self, state, level):
        """Return the state at time w^level in the run from a state."""
        jumps, sights = self.known_level(level)
        return self.states[jumps[self.numbers[state]]]

    def visited(self, state, level):
        """Return the list of the states at all times before w^level, in ascending order."""
        jumps, sights = self.known_level(level)
        return states_in(self.states, sights[self.numbers[state]])

    def jump_orbit(self, state, level):
        """Return the stem and the cycle of a state and its jumps at one level."""
        return find_orbit(lambda reached: self.jump(reached, level), state)

    def state_after(self, state, level, count):
        """Return the state after count jumps at one level."""
        return follow(lambda reached: self.jump(reached, level), state, count)

    def state_at(self, state, time):
        """Return the state at a time in the run from a state."""
        for place, count in enumerate(time):
            state = self.state_after(state, degree(time) - place, count)
        return state

    def halting_time(self, state):
        """Return the least time at which the state is halted, or None."""
        number = self.numbers[state]
        if not self.levels[-1][1][number] & self.halted:
            return None
        time = ()
        for level in reversed(range(len(self.levels))):
            # A halted state is visited before w^(level + 1): so one of the
            # jumps at this level starts a stretch that visits one.
            jumps, sights = self.levels[level]
            count = 0
            while not sights[number] & self.halted:
                number = jumps[number]
                count += 1
            time = add(time, power(level, count))
        return time
