"""The levels of a tower: where all states jump, and what they visit on the way.

The states of a program are numbered in ascending order. A level is a pair of
lists over these numbers: the number of each state's jump, and each state's
sight. A sight stands for a set of states: its bit at a number is 1 if the
state with this number belongs to the set.
"""

from limitrun.machine import limit_state, successor
from limitrun.orbits import find_orbit


def states_in(states, sight):
    """Return the list of the states in a sight, in ascending order."""
    return [state for number, state in enumerate(states) if sight >> number & 1]


def joined_sight(sights, numbers):
    """Return the sight of all that the states with these numbers see."""
    joined = 0
    for number in numbers:
        joined = joined | sights[number]
    return joined


def lowest_level(program, states):
    """Return level 0: the successor of each state, and each state alone."""
    numbers = {state: number for number, state in enumerate(states)}
    jumps = [numbers[successor(program, state)] for state in states]
    return jumps, [1 << number for number in range(len(states))]


def level_above(program, states, level):
    """Return the level above a level."""
    jumps, sights = level

    def jump_of(number):
        return jumps[number]

    orbits = [find_orbit(jump_of, start) for start in range(len(states))]
    recurrent = [joined_sight(sights, cycle) for stem, cycle in orbits]
    # Many states run into the same cycle: each limit is computed once.
    limits = {}
    for sight in sorted(set(recurrent)):
        limits[sight] = states.index(limit_state(program, states_in(states, sight)))
    visited = [joined_sight(sights, stem + cycle) for stem, cycle in orbits]
    return [limits[sight] for sight in recurrent], visited


def all_levels(program, states):
    """Return the list of the levels from 0 to the first one that equals the next."""
    levels = [lowest_level(program, states)]
    while True:
        above = level_above(program, states, levels[-1])
        if above == levels[-1]:
            return levels
        levels.append(above)
