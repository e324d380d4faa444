"""Programs for the tests, and what DOC.md says of runs followed word by word."""

from limitrun.machine import limit_state, successor
from limitrun.ordinals import add
from limitrun.syntax import parse_program

COUNTER = "var x 0..1 = 0 limit set 0\nvar n 0..3 = 0 limit keep 0\nhalt n = 3\nx := 1\nn := if x = 0 then n + 1 else n"
BLINK = "var x 0..1 = 0 limit low\nx := 1 - x"
# Each limit of limits of .. finds n one greater, but any step takes it back to 0.
CLIMB = "var n 0..29 = 0 limit high\nvar x 0..1 = 0 limit low\nn := if x = 0 then n + 1 else 0\nx := 1 - x"
CLIMB_AND_HALT = CLIMB + "\nhalt n = 29 and x = 0"
# Only limits change n: the step goes round through the other variable alone.
LIMITS_COUNT = "var n 0..9 = 0 limit keep 9\nvar x 0..2 = 0 limit set 2\nn := if x = 2 then n + 1 else n\nx := if x = 2 then 0 else 1 - x"

FIXED = (
    COUNTER,
    BLINK,
    LIMITS_COUNT,
    "var n 0..4 = 0 limit high\nvar x 0..1 = 0 limit low\nn := if x = 0 then n + 1 else 0\nx := 1 - x",
    "var n 0..4 = 0 limit high\nvar x 0..1 = 0 limit low\nn := if x = 0 then n + 1 else 0\nx := 1 - x\nhalt n = 4 and x = 0",
    "var n 0..4 = 0 limit high\nvar x 0..1 = 0 limit low\nn := if x = 0 then n + 1 else 0\nx := 1 - x\nhalt n = 4 and x = 1",
    "var x 3..3 = 3 limit low",
    "var x 3..3 = 3 limit set 3\nhalt 1",
    "var x 0..5 = 0 limit low\nx := x + 1\nhalt x = 4",
    "var x 0..5 = 0 limit set 0\nx := x + 1\nhalt x = 4",
    "var x 0..5 = 2 limit set 5\nx := 3 - x\nhalt x = 5",
    "var x -3..3 = 0 limit keep -3\nx := -x\nhalt x = -3",
    "var x 0..1 = 0 limit set 0\nx := if x = 0 then 0 else 1",
    "var x 0..1 = 0 limit keep 0\nvar y 0..1 = 0 limit set 1\nx := if x = 1 and y = 1 then 0 else 1\ny := if x = 0 and y = 1 then 1 else 0",
)


def random_rule(choose, low, high):
    return choose.choice(["low", "high", f"keep {choose.randint(low, high)}", f"set {choose.randint(low, high)}"])


def random_table(choose, states, names, low, high):
    """The text of an expression that has any value in each state."""
    text = str(choose.randint(low, high))
    for state in states:
        if choose.random() < 0.8:
            test = " and ".join(f"{name} = {value}" for name, value in zip(names, state))
            text = f"if {test} then {choose.randint(low, high)} else {text}"
    return text


def random_text(choose, sizes=((2,), (3,), (4,), (5,), (2, 2), (2, 3), (3, 2), (2, 2, 2))):
    """The text of a small program with any steps, limits and halted states."""
    ranges = []
    for size in choose.choice(sizes):
        low = choose.randint(-1, 1)
        ranges.append((low, low + size - 1))
    return random_text_over(choose, [f"v{place}" for place in range(len(ranges))], ranges)


def random_text_over(choose, names, ranges):
    """The text of a program with variables of these names and ranges."""
    lines = []
    states = [()]
    for name, (low, high) in zip(names, ranges):
        lines.append(f"var {name} {low}..{high} = {choose.randint(low, high)} limit {random_rule(choose, low, high)}")
        states = [state + (value,) for state in states for value in range(low, high + 1)]
    for name, (low, high) in zip(names, ranges):
        lines.append(f"{name} := {random_table(choose, states, names, low, high)}")
    if choose.random() < 0.6:
        halted = choose.sample(states, min(len(states), choose.choice([1, 1, 2])))
        tests = [" and ".join(f"{name} = {value}" for name, value in zip(names, state)) for state in halted]
        lines.append("halt " + " or ".join(tests))
    return "\n".join(lines)


def random_programs(choose, number):
    """Some programs, parsed; texts with too long lines are passed over."""
    programs = []
    while len(programs) < number:
        try:
            programs.append(parse_program(random_text(choose)))
        except ValueError:
            continue
    return programs


class Walk:
    """What jumps by powers of w visit, level by level; jump(thing, level) is where a thing jumps."""

    def __init__(self, jump):
        self.jump = jump
        self.sights = {}

    def orbit(self, thing, level):
        """The things of the sequence in order, and the place at which the period begins."""
        order = []
        while thing not in order:
            order.append(thing)
            thing = self.jump(thing, level)
        return order, order.index(thing)

    def seen(self, things, level):
        return set().union(*[self.visited(thing, level) for thing in things])

    def visited(self, thing, level):
        """The set of what is visited before w^level."""
        if (thing, level) not in self.sights:
            found = {thing}
            if level > 0:
                found = self.seen(self.orbit(thing, level - 1)[0], level - 1)
            self.sights[thing, level] = found
        return self.sights[thing, level]

    def at(self, thing, time):
        """What is reached at a time whose coefficients are small."""
        for level, count in zip(range(len(time) - 1, -1, -1), time):
            for turn in range(count):
                thing = self.jump(thing, level)
        return thing

    def before(self, thing, time):
        """The set of what is visited at all times before a time whose coefficients are small."""
        seen = set()
        for level, count in zip(range(len(time) - 1, -1, -1), time):
            for turn in range(count):
                seen |= self.visited(thing, level)
                thing = self.jump(thing, level)
        return seen


class Definition(Walk):
    """Points 12 and 13 for a program."""

    def __init__(self, program):
        Walk.__init__(self, self.state_jump)
        self.program = program
        self.jumps = {}

    def state_jump(self, state, level):
        if (state, level) not in self.jumps:
            if level == 0:
                found = successor(self.program, state)
            else:
                order, period = self.orbit(state, level - 1)
                found = limit_state(self.program, sorted(self.seen(order[period:], level - 1)))
            self.jumps[state, level] = found
        return self.jumps[state, level]

    def state_at(self, state, time):
        return self.at(state, time)

    def states_before(self, state, time):
        return self.before(state, time)


def power_of(columns, start, count):
    """What is reached by count steps along a dict, by repeated squaring."""
    step = dict(columns)
    while count:
        if count & 1:
            start = step[start]
        step = {key: step[step[key]] for key in step}
        count >>= 1
    return start


def random_time(choose, length=4, most=4):
    """Any ordinal with few terms."""
    row = [choose.choice([0, 0, choose.randint(0, most)]) for place in range(choose.randint(0, length))]
    while row and row[0] == 0:
        row.pop(0)
    return tuple(row)


def table_jump(table, row, level):
    """The row that describes the trace of a row from time w^level on."""
    jumps = table[row][1]
    return jumps[min(level, len(jumps) - 1)]


def rows_walk(table):
    return Walk(lambda row, level: table_jump(table, row, level))


def pairs_walk(one, other):
    return Walk(lambda rows, level: (table_jump(one, rows[0], level), table_jump(other, rows[1], level)))


def separated(values, columns):
    """The classes of the rows of an automaton: split by values, then by the jumps at all levels, until nothing splits."""
    numbers = {}
    classes = [numbers.setdefault(value, len(numbers)) for value in values]
    while True:
        numbers = {}
        finer = []
        for row, own in enumerate(classes):
            finer.append(numbers.setdefault((own,) + tuple(classes[column[row]] for column in columns), len(numbers)))
        if len(set(finer)) == len(set(classes)):
            return finer
        classes = finer


def smallest_table(start, value_of, jump_of, levels):
    """The canonical table of point 19, built by its words."""
    things, places = [start], {start: 0}
    for thing in things:
        for level in range(levels):
            following = jump_of(thing, level)
            if following not in places:
                places[following] = len(things)
                things.append(following)
    columns = [[places[jump_of(thing, level)] for thing in things] for level in range(levels)]
    classes = separated([value_of(thing) for thing in things], columns)
    firsts = {own: classes.index(own) for own in set(classes)}
    mentioned = [classes[0]]
    for own in mentioned:
        for column in columns:
            if classes[column[firsts[own]]] not in mentioned:
                mentioned.append(classes[column[firsts[own]]])
    numbers = {own: row for row, own in enumerate(mentioned)}
    rows = []
    for own in mentioned:
        place = firsts[own]
        rows.append((value_of(things[place]), tuple(numbers[classes[column[place]]] for column in columns)))
    while len(rows[0][1]) > 1 and all(jumps[-1] == jumps[-2] for value, jumps in rows):
        rows = [(value, jumps[:-1]) for value, jumps in rows]
    return tuple(rows)


class Counting:
    """Point 22 for a walk: the events are the times at which a thing is reached that is one."""

    def __init__(self, walk, is_event):
        self.walk = walk
        self.is_event = is_event
        self.powers = {}
        self.doubled = {}

    def before_power(self, thing, level):
        """The count of the events before w^level."""
        if (thing, level) not in self.powers:
            if level == 0:
                found = (1,) if self.is_event(thing) else ()
            else:
                order, period = self.walk.orbit(thing, level - 1)
                found, more = (), ()
                for other in order[:period]:
                    found = add(found, self.before_power(other, level - 1))
                for other in order[period:]:
                    more = add(more, self.before_power(other, level - 1))
                # Turn by turn the counts are more*1, more*2 ..: none exceeds the next power of w.
                found = add(found, (1,) + (0,) * len(more) if more else ())
            self.powers[thing, level] = found
        return self.powers[thing, level]

    def doubled_jump(self, thing, level, exponent):
        """What 2^exponent jumps at a level reach, and the count of the events on the way."""
        key = (thing, level, exponent)
        if key not in self.doubled:
            if exponent == 0:
                found = self.walk.jump(thing, level), self.before_power(thing, level)
            else:
                middle, first = self.doubled_jump(thing, level, exponent - 1)
                reached, second = self.doubled_jump(middle, level, exponent - 1)
                found = reached, add(first, second)
            self.doubled[key] = found
        return self.doubled[key]

    def before(self, thing, time):
        """The count of the events before a time."""
        total = ()
        for level, jumps in zip(range(len(time) - 1, -1, -1), time):
            # Powers of 2 that sum to the number of the jumps.
            for exponent in [place for place in range(jumps.bit_length()) if jumps >> place & 1]:
                thing, more = self.doubled_jump(thing, level, exponent)
                total = add(total, more)
        return total
