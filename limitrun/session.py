"""Sessions: one run, its history, breakpoints and marks."""

from limitrun.errors import Incompatible, NoBreakpoint, NoMark, NotLater, NotReached, NoVariable, OutOfRange
from limitrun.events import count_events
from limitrun.machine import start_state
from limitrun.ordinals import add, compare
from limitrun.segments import Segment, segment_at, with_segment
from limitrun.syntax import names_of, parse_expression, parse_program
from limitrun.tower import Tower
from limitrun.traces import is_integer, trace_of


def ranges_of(program):
    """Return the list of (name, low, high) of the variables, in order."""
    return [variable[:3] for variable in program[0]]


class Session:
    """A run of a program that goes on, and that can be changed at its present time."""

    def __init__(self, text):
        program = parse_program(text)
        self.moment = ()
        # A list of segments that stands here is never changed: marks keep it.
        self.segments = [Segment((), start_state(program), Tower(program), "start")]
        # The sights of the breakpoints by their numbers. All programs of a
        # session have the same states, so that a sight holds for each of them.
        self.breakpoints = {}
        self.next_number = 0
        self.marks = []

    def time(self):
        """Return the present time."""
        return self.moment

    def state(self):
        """Return the present state."""
        return self.segments[-1].reach(self.moment)

    def program(self):
        """Return the present program."""
        return self.present_tower().source

    def present_tower(self):
        """Return the tower of the present program."""
        return self.segments[-1].tower

    def run_to(self, time):
        """Make a time the present one, and return the state."""
        if compare(time, self.moment) < 0:
            raise NotLater("the time is before the present one")
        self.moment = time
        return self.state()

    def advance(self, amount):
        """Make the present time later by an amount, and return the state."""
        self.moment = add(self.moment, amount)
        return self.state()

    def state_at(self, time):
        """Return the state at a time in the history."""
        if compare(time, self.moment) > 0:
            raise NotReached("the time is later than the present one")
        return segment_at(self.segments, time).reach(time)

    def begin_segment(self, first, tower, reason):
        """Begin a segment at the present time."""
        self.segments = with_segment(self.segments, Segment(self.moment, first, tower, reason))

    def set_value(self, name, value):
        """Change the value of a variable in the present state, and return the state."""
        names = names_of(self.program())
        if name not in names:
            raise NoVariable(name)
        at = names.index(name)
        own_name, low, high = ranges_of(self.program())[at]
        if not is_integer(value) or not low <= value <= high:
            raise OutOfRange("the value is not an integer of the variable's range")
        state = self.state()
        changed = state[:at] + (value,) + state[at + 1:]
        self.begin_segment(changed, self.present_tower(), f"set {name} {value}")
        return changed

    def replace_program(self, text):
        """Go on from the present state with another program."""
        program = parse_program(text)
        if ranges_of(program) != ranges_of(self.program()):
            raise Incompatible("the variables or their ranges are others")
        self.begin_segment(self.state(), Tower(program), "program")

    def history(self):
        """Return the list of (time, reason) of the segments."""
        return [(segment.begin, segment.reason) for segment in self.segments]

    def read_condition(self, text):
        """Return the parsed form of an expression over the variables."""
        return parse_expression(text, names_of(self.program()))

    def time_after(self, amount):
        """Return the time that is later than the present one by an amount; None stays None."""
        return None if amount is None else add(self.moment, amount)

    def next_time(self, text):
        """Return the least time from the present one on at which an expression is not 0, or None."""
        tower = self.present_tower()
        sight = tower.sight_where(self.read_condition(text))
        return self.time_after(tower.first_time(self.state(), sight))

    def count_times(self, text, amount):
        """Return the count of the times, from the present one on and before the
        present time + amount, at which an expression is not 0."""
        condition = ("!=", self.read_condition(text), ("int", 0))
        return count_events(trace_of(self.present_tower(), self.state(), condition), (1,), amount)

    def halting_time(self):
        """Return the least time from the present one on at which the state is halted, or None."""
        return self.time_after(self.present_tower().halting_time(self.state()))

    def add_breakpoint(self, text):
        """Add a breakpoint, and return its number."""
        number = self.next_number
        self.breakpoints[number] = self.present_tower().sight_where(self.read_condition(text))
        self.next_number += 1
        return number

    def remove_breakpoint(self, number):
        """Remove the breakpoint with this number, any object."""
        if not is_integer(number) or number not in self.breakpoints:
            raise NoBreakpoint("there is no breakpoint with this number")
        del self.breakpoints[number]

    def continue_run(self):
        """Go on to the next time at which breakpoints hold, and return the list of their numbers."""
        tower = self.present_tower()
        anywhere = 0
        for sight in self.breakpoints.values():
            anywhere = anywhere | sight
        amount = tower.first_time(tower.jump(self.state(), 0), anywhere)
        if amount is None:
            return []
        reached = self.advance(add((1,), amount))
        return [number for number, sight in self.breakpoints.items() if tower.is_in(reached, sight)]

    def mark(self):
        """Add a mark at the present time, and return its number."""
        self.marks.append((self.moment, self.segments))
        return len(self.marks) - 1

    def back(self, number):
        """Go back to the mark with this number, any object, and return the state."""
        if not is_integer(number) or not 0 <= number < len(self.marks):
            raise NoMark("there is no mark with this number")
        self.moment, self.segments = self.marks[number]
        del self.marks[number + 1:]
        return self.state()
