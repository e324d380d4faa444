"""How many events there are before the powers of w, counted from each row of a table."""

from limitrun.orbits import find_orbit
from limitrun.ordinals import add, compare, divide, multiply, power, subtract
from limitrun.traces import column_at, count_columns, row_after


class EventCounts:
    """The counts of the events of a trace for some values, counted from each of its rows."""

    def __init__(self, trace, values):
        self.trace = trace
        self.last = count_columns(trace) - 1
        # The entry at a level lists, for each row, the count before w^level.
        self.by_level = [[power(0, int(row[0] in values)) for row in trace]]
        for level in range(self.last):
            self.by_level.append(self.counts_above(level))

    def counts_above(self, level):
        """Return the list of the counts before w^(level + 1), counted from each row."""
        jumps = column_at(self.trace, level)
        counts = []
        for row in range(len(self.trace)):
            stem, cycle = find_orbit(lambda reached: jumps[reached], row)
            endless = multiply(self.count_along(cycle, level), power(1))
            counts.append(add(self.count_along(stem, level), endless))
        return counts

    def count_before(self, row, level):
        """Return the count of the events before w^level, counted from a row."""
        if level <= self.last:
            return self.by_level[level][row]
        # From w^last on, the row is the same again at each multiple of w^last.
        again = self.by_level[self.last][row_after(self.trace, row, self.last)]
        return add(self.by_level[self.last][row], multiply(again, power(level - self.last)))

    def count_along(self, rows, level):
        """Return the count of the events in jumps at one level, one from each of these rows."""
        total = ()
        for row in rows:
            total = add(total, self.count_before(row, level))
        return total

    def count_over(self, row, level, jumps):
        """Return the count of the events in a number of jumps at one level, made from a row on."""
        stem, cycle = self.orbit_from(row, level)
        rounds, over = divmod(max(0, jumps - len(stem)), len(cycle))
        in_rounds = multiply(self.count_along(cycle, level), power(0, rounds))
        in_stem = self.count_along(stem[:jumps], level)
        return add(add(in_stem, in_rounds), self.count_along(cycle[:over], level))

    def count_all(self, row):
        """Return the count of all events, counted from a row, or None if it is w^w."""
        # What the first multiple of w^last repeats, all later ones repeat.
        if self.count_before(row_after(self.trace, row, self.last), self.last) != ():
            return None
        return self.count_before(row, self.last)

    def orbit_from(self, row, level):
        """Return the stem and the cycle of a row and its jumps at one level."""
        return find_orbit(lambda reached: row_after(self.trace, reached, level), row)

    def find_event(self, row, index):
        """Return the time of the event with this number, counted from a row, and
        the row from it on; there must be such an event."""
        level = 0
        while compare(self.count_before(row, level), index) <= 0:
            level += 1
        time = ()
        while level > 0:
            level -= 1
            row, jumps, index = self.pass_by(row, level, index)
            time = add(time, power(level, jumps))
        return time, row

    def pass_by(self, row, level, index):
        """Make jumps at one level as long as the event with this number lies
        behind them, which must end before w^(level + 1). Return the row that is
        reached, the number of the jumps, and the event's number from there on."""
        stem, cycle = self.orbit_from(row, level)
        jumps, index = self.pass_along(stem, level, index)
        if jumps < len(stem):
            return stem[jumps], jumps, index
        # There are events in the cycle, and the quotient is finite: otherwise
        # the event would not lie before w^(level + 1).
        rounds, index = divide(index, self.count_along(cycle, level))
        jumps, index = self.pass_along(cycle, level, index)
        return cycle[jumps], len(stem) + sum(rounds) * len(cycle) + jumps, index

    def pass_along(self, rows, level, index):
        """Return how many of these rows have their events before the event with
        this number, and its number behind them."""
        for passed, row in enumerate(rows):
            count = self.count_before(row, level)
            if compare(count, index) > 0:
                return passed, index
            index = subtract(index, count)
        return len(rows), index
