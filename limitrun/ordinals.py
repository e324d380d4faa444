"""Ordinals below w^w, as tuples of all coefficients, the highest exponent first."""

from limitrun.errors import InvalidOrdinal, NotLater, ZeroDivisor

MOST_COEFFICIENTS = 64
COEFFICIENT_BOUND = 10 ** 18
LONGEST_COEFFICIENT = 18
LONGEST_EXPONENT = 2
DIGITS = "0123456789"


def is_coefficient(thing):
    """Return whether any object is an integer that may be a coefficient."""
    if isinstance(thing, bool) or not isinstance(thing, int):
        return False
    return 0 <= thing < COEFFICIENT_BOUND


def is_ordinal(thing):
    """Return whether any object is an ordinal within the bounds of arguments."""
    if not isinstance(thing, tuple) or len(thing) > MOST_COEFFICIENTS:
        return False
    for item in thing:
        if not is_coefficient(item):
            return False
    return len(thing) == 0 or thing[0] != 0


def compare(first, second):
    """Return -1, 0 or 1 if first is less than, equal to or greater than second."""
    if first == second:
        return 0
    # Without leading zeros, the longer tuple has the higher exponent.
    if len(first) != len(second):
        return -1 if len(first) < len(second) else 1
    return -1 if first < second else 1


def degree(ordinal):
    """Return the highest exponent, -1 for 0."""
    return len(ordinal) - 1


def power(exponent, coefficient=1):
    """Return w^exponent*coefficient."""
    if coefficient == 0:
        return ()
    return (coefficient,) + (0,) * exponent


def without_leading_zeros(coefficients):
    """Return the ordinal with these coefficients, the first of which may be 0."""
    start = 0
    while start < len(coefficients) and coefficients[start] == 0:
        start += 1
    return coefficients[start:]


def add(first, second):
    """Return first + second."""
    if len(second) == 0:
        return first
    if len(first) < len(second):
        return second
    shared = len(first) - len(second)
    return first[:shared] + (first[shared] + second[0],) + second[1:]


def multiply(first, second):
    """Return first * second."""
    if len(first) == 0 or len(second) == 0:
        return ()
    # Only the finite part of second sees more of first than its degree.
    finite = second[-1]
    if finite == 0:
        return second[:-1] + (0,) * len(first)
    return second[:-1] + (first[0] * finite,) + first[1:]


def subtract(first, second):
    """Return the ordinal c with second + c = first."""
    if compare(first, second) < 0:
        raise NotLater("the second ordinal is greater than the first one")
    if len(first) > len(second):
        return first
    for place in range(len(first)):
        if first[place] != second[place]:
            return (first[place] - second[place],) + first[place + 1:]
    return ()


def divide(dividend, divisor):
    """Return the pair (q, r) with dividend = divisor*q + r and r < divisor."""
    if len(divisor) == 0:
        raise ZeroDivisor("the divisor is 0")
    if len(dividend) < len(divisor):
        return (), dividend
    # divisor*w^e has a single term for e > 0: the terms of the dividend above
    # the divisor's degree give the infinite part of the quotient as they stand.
    higher = len(dividend) - len(divisor)
    finite = dividend[higher] // divisor[0]
    remaining = without_leading_zeros(dividend[higher:])
    if compare(multiply(divisor, power(0, finite)), remaining) > 0:
        finite -= 1
    remainder = subtract(remaining, multiply(divisor, power(0, finite)))
    return without_leading_zeros(dividend[:higher] + (finite,)), remainder


def format_term(exponent, coefficient):
    """Return the text of the term w^exponent*coefficient, which is not 0."""
    if exponent == 0:
        return str(coefficient)
    base = "w" if exponent == 1 else f"w^{exponent}"
    return base if coefficient == 1 else f"{base}*{coefficient}"


def format_ordinal(ordinal):
    """Return the canonical text of an ordinal."""
    terms = []
    for place, coefficient in enumerate(ordinal):
        if coefficient != 0:
            terms.append(format_term(len(ordinal) - 1 - place, coefficient))
    return " + ".join(terms) if terms else "0"


def parse_number(text, longest):
    """Return the number that a text of a few digits stands for."""
    if len(text) == 0 or len(text) > longest:
        raise InvalidOrdinal("no number of this length is due here")
    for character in text:
        if character not in DIGITS:
            raise InvalidOrdinal("a number has digits only")
    return int(text)


def parse_term(text):
    """Return the exponent and the coefficient of a term."""
    base, star, factor = text.partition("*")
    if not base.startswith("w"):
        return 0, parse_number(text, LONGEST_COEFFICIENT)
    coefficient = parse_number(factor, LONGEST_COEFFICIENT) if star else 1
    if base == "w":
        return 1, coefficient
    if not base.startswith("w^"):
        raise InvalidOrdinal("a term begins with w, w^ or a digit")
    return parse_number(base[2:], LONGEST_EXPONENT), coefficient


def parse_ordinal(text):
    """Return the ordinal with this canonical text."""
    total = ()
    for part in text.split(" + "):
        exponent, coefficient = parse_term(part)
        total = add(total, power(exponent, coefficient))
    # Whatever is readable but not canonical differs from the canonical text.
    if not is_ordinal(total) or format_ordinal(total) != text:
        raise InvalidOrdinal("the text is not the canonical one of an ordinal")
    return total
