"""The states of a program, and its steps and limits."""

from limitrun.syntax import evaluate, names_of


def start_state(program):
    """Return the state in which all variables have their start values."""
    return tuple([variable[3] for variable in program[0]])


def all_states(program):
    """Return the list of all states in ascending order."""
    states = [()]
    for variable in program[0]:
        choices = list(range(variable[1], variable[2] + 1))
        states = [state + (value,) for state in states for value in choices]
    return states


def values_in(program, state):
    """Return the dict from the names of the variables to their values in a state."""
    return dict(zip(names_of(program), state))


def is_halted(program, state):
    """Return whether the state is halted."""
    if program[1] is None:
        return False
    return evaluate(program[1], values_in(program, state)) != 0


def successor(program, state):
    """Return the successor of a state."""
    if is_halted(program, state):
        return state
    values = values_in(program, state)
    expressions = dict(program[2])
    following = []
    for name, low, high, start, rule in program[0]:
        value = values[name]
        if name in expressions:
            value = evaluate(expressions[name], values)
        following.append(max(low, min(high, value)))
    return tuple(following)


def limit_value(rule, values):
    """Return the value that a limit rule gives for a non-empty list of values."""
    least = min(values)
    greatest = max(values)
    if rule[0] == "low":
        return least
    if rule[0] == "high":
        return greatest
    if rule[0] == "keep" and least == greatest:
        return least
    return rule[1]


def limit_state(program, states):
    """Return the limit state of a non-empty list of states."""
    if min(states) == max(states) and is_halted(program, states[0]):
        return states[0]
    limits = []
    for place, variable in enumerate(program[0]):
        limits.append(limit_value(variable[4], [state[place] for state in states]))
    return tuple(limits)
