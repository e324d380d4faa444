"""Traces: values at all times below w^w, in one canonical table."""

from limitrun.machine import values_in
from limitrun.orbits import follow
from limitrun.ordinals import add, degree, power
from limitrun.partitions import classes_by_level
from limitrun.syntax import evaluate

MOST_ROWS = 100
MOST_JUMPS = 64


def trace_of(tower, state, expression):
    """Return the table of the trace of an expression in the run from a state."""
    def value_of(reached):
        return evaluate(expression, values_in(tower.source, reached))

    def jump_of(reached, level):
        return tower.jump(reached, level)

    return build_trace(state, value_of, jump_of, tower.height() + 1)


def build_trace(start, value_of, jump_of, levels):
    """Return the table of a trace that is described by objects from start on."""
    things, columns = explore(start, jump_of, levels)
    values = [value_of(thing) for thing in things]
    # The things stand in the order in which they are first mentioned, and so
    # do the classes: their numbers are those of the rows.
    classes = classes_by_level(values, columns)[-1]
    firsts = {}
    for place, row in enumerate(classes):
        firsts.setdefault(row, place)
    kept = list(firsts.values())
    narrow = without_last_repeats([[classes[column[first]] for first in kept] for column in columns])
    jumps = list(zip(*narrow))
    return tuple(zip([values[first] for first in kept], jumps))


def explore(start, jump_of, levels):
    """Return the list of all things that are reached from start, and their columns."""
    places = {start: 0}
    things = [start]
    columns = [[] for level in range(levels)]
    done = 0
    while done < len(things):
        for level in range(levels):
            following = jump_of(things[done], level)
            if following not in places:
                places[following] = len(things)
                things.append(following)
            columns[level].append(places[following])
        done += 1
    return things, columns


def without_last_repeats(columns):
    """Return the columns without those at the end that equal the one before."""
    needed = len(columns)
    while needed > 1 and columns[needed - 1] == columns[needed - 2]:
        needed -= 1
    return columns[:needed]


def count_columns(trace):
    """Return how many jumps each row of a table has."""
    return len(trace[0][1])


def row_after(trace, row, level):
    """Return the row from time w^level on, counted from a row."""
    jumps = trace[row][1]
    return jumps[min(level, len(jumps) - 1)]


def row_at(trace, time):
    """Return the row that describes the trace from a time on."""
    row = 0
    for place, count in enumerate(time):
        row = row_after_many(trace, row, degree(time) - place, count)
    return row


def row_after_many(trace, row, level, count):
    """Return the row from time w^level*count on, counted from a row."""
    return follow(lambda reached: row_after(trace, reached, level), row, count)


def column_at(trace, level):
    """Return the list of the jumps of all rows at any level."""
    return [row_after(trace, row, level) for row in range(len(trace))]


def value_at(trace, time):
    """Return the value at a time."""
    return trace[row_at(trace, time)][0]


def drop(trace, time):
    """Return the table of the trace from a time on."""
    return table_from(trace, row_at(trace, time))


def table_from(trace, start):
    """Return the table of the trace that a row of a table describes."""
    def value_of(row):
        return trace[row][0]

    def jump_of(row, level):
        return row_after(trace, row, level)

    return build_trace(start, value_of, jump_of, count_columns(trace))


def first_difference(one, other):
    """Return the least time at which the values differ, or None."""
    values = [row[0] for row in one + other]
    columns = []
    for level in range(max(count_columns(one), count_columns(other))):
        columns.append(column_at(one, level) + [row + len(one) for row in column_at(other, level)])
    classes = classes_by_level(values, columns)
    first = 0
    second = len(one)
    if classes[-1][first] == classes[-1][second]:
        return None
    time = ()
    for level in range(len(columns) - 1, -1, -1):
        # The rows differ before w^(level + 1): so after some jumps at this
        # level they differ before w^level.
        count = 0
        while classes[level][first] == classes[level][second]:
            first = columns[level][first]
            second = columns[level][second]
            count += 1
        time = add(time, power(level, count))
    return time


def is_trace(thing):
    """Return whether any object is the table of a trace within the bounds of arguments."""
    if not has_table_shape(thing):
        return False
    columns = [column_at(thing, level) for level in range(count_columns(thing))]
    return is_absorbing(columns) and table_from(thing, 0) == thing


def has_table_shape(thing):
    """Return whether any object is a tuple of rows with jumps to its own rows."""
    if not isinstance(thing, tuple) or not 1 <= len(thing) <= MOST_ROWS:
        return False
    for row in thing:
        if not is_row(row, len(thing)) or len(row[1]) != len(thing[0][1]):
            return False
    return True


def is_row(thing, rows):
    """Return whether any object is a row of a table with this many rows."""
    if not isinstance(thing, tuple) or len(thing) != 2 or not is_integer(thing[0]):
        return False
    jumps = thing[1]
    if not isinstance(jumps, tuple) or not 1 <= len(jumps) <= MOST_JUMPS:
        return False
    return all([is_integer(jump) and 0 <= jump < rows for jump in jumps])


def is_integer(thing):
    """Return whether any object is an integer."""
    return isinstance(thing, int) and not isinstance(thing, bool)


def is_absorbing(columns):
    """Return whether a jump at a lower level before one at a higher level makes
    no difference, and neither does a second jump at the last level."""
    # Neighbours are enough: a jump two levels up is one that is made behind a
    # jump one level up, and this one absorbs the lower jump.
    for before, column in zip(columns, columns[1:] + columns[-1:]):
        if [column[row] for row in before] != column:
            return False
    return True
