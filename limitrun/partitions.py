"""Classes of rows that describe the same trace up to a level.

A column is a list that tells for each row the row to which it jumps at one
level. Classes are a list, too: two rows belong to one class if and only if
they have the same number there.
"""


def numbered(keys):
    """Return for each key its number: 0, 1, .. in the order in which they first occur."""
    numbers = {}
    return [numbers.setdefault(key, len(numbers)) for key in keys]


def refined(classes, column):
    """Return the classes of rows from which the column leads through the same classes for ever."""
    # Here two rows of one class lead through the same classes for the first
    # 1, 2, 4, .. rows. Once twice as many rows tell no more apart, nothing does.
    ahead = column
    while True:
        finer = numbered([(own, classes[ahead[row]]) for row, own in enumerate(classes)])
        if max(finer) == max(classes):
            return classes
        classes = finer
        ahead = [ahead[row] for row in ahead]


def classes_by_level(values, columns):
    """Return for each level k, up to the number of columns, the classes of rows
    that have the same values at all times before w^k."""
    found = [numbered(values)]
    for column in columns:
        # The times before w^(k + 1) are the times before w^k after any number
        # of jumps at level k.
        found.append(refined(found[-1], column))
    return found
