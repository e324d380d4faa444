"""Comparisons: of programs, of the states of a program, and of its limit rules."""

from limitrun.errors import NoVariable, OutOfRange
from limitrun.machine import start_state, values_in
from limitrun.partitions import classes_by_level
from limitrun.syntax import evaluate, names_of
from limitrun.tower import Tower
from limitrun.traces import first_difference, trace_of


def start_trace(program, expression):
    """Return the trace of an expression in the run from the program's start state."""
    return trace_of(Tower(program), start_state(program), expression)


def run_difference(first, second, expression):
    """Return the least time at which the expression differs between the runs of two programs, or None."""
    return first_difference(start_trace(first, expression), start_trace(second, expression))


def state_classes(program, expression):
    """Return the lists of the states from which the expression has equal values at all times."""
    tower = Tower(program)
    values = [evaluate(expression, values_in(program, state)) for state in tower.states]
    columns = [jumps for jumps, sights in tower.levels]
    classes = classes_by_level(values, columns)[-1]
    # The classes are numbered in the order of their first states.
    lists = [[] for number in range(max(classes) + 1)]
    for state, number in zip(tower.states, classes):
        lists[number].append(state)
    return lists


def with_rule(program, name, rule):
    """Return the program with another limit rule of a variable."""
    variables, halt, assignments = program
    if name not in names_of(program):
        raise NoVariable(name)
    at = names_of(program).index(name)
    low, high, start = variables[at][1:4]
    if len(rule) == 2 and not low <= rule[1] <= high:
        raise OutOfRange("the rule's integer is not in the variable's range")
    changed = (name, low, high, start, rule)
    return variables[:at] + (changed,) + variables[at + 1:], halt, assignments


def rules_between(low, high):
    """Return the list of all limit rules of a variable with this range."""
    rules = [("low",), ("high",)]
    for word in ("keep", "set"):
        rules.extend([(word, value) for value in range(low, high + 1)])
    return rules


def rule_effects(program, expression):
    """Return the list of (name, rule, time): when the expression first differs with another rule."""
    unchanged = start_trace(program, expression)
    effects = []
    for name, low, high, start, own_rule in program[0]:
        for rule in rules_between(low, high):
            if rule != own_rule:
                changed = start_trace(with_rule(program, name, rule), expression)
                effects.append((name, rule, first_difference(unchanged, changed)))
    return effects
