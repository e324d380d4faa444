"""Operations that make new traces from traces."""

from limitrun.errors import TooLong, ZeroDivisor
from limitrun.ordinals import degree
from limitrun.traces import build_trace, count_columns, row_after

MOST_UNITS = 50


def constant(value):
    """Return the trace that has the value at all times."""
    return ((value, (0,)),)


def map_values(trace, pairs):
    """Return the trace in which the first part of each pair is replaced by the second."""
    replaced = {old: new for old, new in pairs}

    def value_of(row):
        value = trace[row][0]
        return replaced.get(value, value)

    def jump_of(row, level):
        return row_after(trace, row, level)

    return build_trace(0, value_of, jump_of, count_columns(trace))


def combine(one, other, how):
    """Return the trace of the least, the greatest, the sum or the sameness of both values."""
    def value_of(rows):
        return combined_value(one[rows[0]][0], other[rows[1]][0], how)

    def jump_of(rows, level):
        return row_after(one, rows[0], level), row_after(other, rows[1], level)

    return build_trace((0, 0), value_of, jump_of, max(count_columns(one), count_columns(other)))


def combined_value(first, second, how):
    """Return what two values are combined to."""
    if how == "min":
        return min(first, second)
    if how == "max":
        return max(first, second)
    if how == "sum":
        return first + second
    return int(first == second)


def units_of(time):
    """Return the exponents of the powers of w whose sum is the time, each as often as it occurs."""
    if sum(time) > MOST_UNITS:
        raise TooLong(MOST_UNITS)
    units = []
    for place, count in enumerate(time):
        units.extend([degree(time) - place] * count)
    return units


def divisor_units(time):
    """Return the units of a time that may not be 0."""
    units = units_of(time)
    if len(units) == 0:
        raise ZeroDivisor("the time is 0")
    return units


def concat(first, time, second):
    """Return the trace that is first before the time, and second from it on."""
    units = units_of(time)
    # A thing is a row and the number of the units that are over. What remains
    # of the time is the sum of the others; if none is left, second has begun.
    def value_of(thing):
        row, over = thing
        return first[row][0] if over < len(units) else second[row][0]

    def jump_of(thing, level):
        row, over = thing
        if over == len(units):
            return row_after(second, row, level), over
        if level > units[over]:
            return row_after(second, 0, level), len(units)
        if level == units[over]:
            over += 1
        return (row_after(first, row, level), over) if over < len(units) else (0, over)

    return build_trace((0, 0), value_of, jump_of, max(count_columns(second), len(time) + 1))


def repeat(trace, time):
    """Return the trace that repeats what the trace is before the time."""
    units = divisor_units(time)
    # A thing is a row and the number of the units that are over in its block.
    def value_of(thing):
        return trace[thing[0]][0]

    def jump_of(thing, level):
        row, over = thing
        if level > units[0]:
            return 0, 0
        if level > units[over]:
            # What remains of the block is absorbed: the jump starts in the next one.
            row, over = 0, 0
        if level == units[over]:
            over += 1
        return (row_after(trace, row, level), over) if over < len(units) else (0, 0)

    return build_trace((0, 0), value_of, jump_of, len(time) + 1)


def sample(trace, level):
    """Return the trace of the values at the multiples of w^level."""
    def value_of(row):
        return trace[row][0]

    def jump_of(row, above):
        return row_after(trace, row, level + above)

    return build_trace(0, value_of, jump_of, max(1, count_columns(trace) - level))


def hold(trace, time):
    """Return the trace that keeps each value for as long as the time."""
    units = divisor_units(time)
    # A thing is a row and the number of the units that are over in its block.
    def value_of(thing):
        return trace[thing[0]][0]

    def jump_of(thing, level):
        row, over = thing
        if level > units[0]:
            return row_after(trace, row, level - units[0]), 0
        if level > units[over]:
            # What remains of the block is absorbed: the jump starts in the next one.
            row, over = row_after(trace, row, 0), 0
        if level == units[over]:
            over += 1
        return (row, over) if over < len(units) else (row_after(trace, row, 0), 0)

    return build_trace((0, 0), value_of, jump_of, degree(time) + max(2, count_columns(trace)))
