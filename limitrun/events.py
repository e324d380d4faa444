"""The events of a trace: the times at which it has one of some values, numbered by ordinals."""

from limitrun.counts import EventCounts
from limitrun.errors import NoEvent
from limitrun.ordinals import add, compare, degree, power
from limitrun.traces import build_trace, count_columns, row_after_many, row_at


def next_event(trace, values, time):
    """Return the least event that is not before the time, or None."""
    counts = EventCounts(trace, values)
    row = row_at(trace, time)
    if counts.count_all(row) == ():
        return None
    wait, reached = counts.find_event(row, ())
    return add(time, wait)


def count_events(trace, values, time):
    """Return the count of the events before the time."""
    counts = EventCounts(trace, values)
    row = 0
    total = ()
    for place, jumps in enumerate(time):
        level = degree(time) - place
        total = add(total, counts.count_over(row, level, jumps))
        row = row_after_many(trace, row, level, jumps)
    return total


def total_events(trace, values):
    """Return the count of all events, or None if it is w^w."""
    return EventCounts(trace, values).count_all(0)


def has_event(counts, row, index):
    """Return whether there is an event with this number, counted from a row."""
    total = counts.count_all(row)
    return total is None or compare(index, total) < 0


def nth_event(trace, values, index):
    """Return the event with this number."""
    counts = EventCounts(trace, values)
    if not has_event(counts, 0, index):
        raise NoEvent("there are not so many events")
    time, row = counts.find_event(0, index)
    return time


def select(trace, values, rest):
    """Return the trace of the values at the events, and of rest behind the last one."""
    counts = EventCounts(trace, values)

    # A thing is the row from an event on, or None behind the last event.
    def thing_at(row, index):
        if row is None or not has_event(counts, row, index):
            return None
        time, reached = counts.find_event(row, index)
        return reached

    def value_of(row):
        return rest if row is None else trace[row][0]

    def jump_of(row, level):
        return thing_at(row, power(level))

    # Before w^last, for the last level, there are at most w^last events, and from
    # there on the trace is the same from each multiple of w^last: so the event
    # with the number w^level has the same row for this level and all higher ones.
    return build_trace(thing_at(0, ()), value_of, jump_of, count_columns(trace))
