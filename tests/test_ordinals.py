"""Points 2, 4 and 5: ordinals and their arithmetic."""

import copy
import itertools
import unittest

from limitrun.errors import NotLater, ZeroDivisor
from limitrun.ordinals import add, compare, degree, divide, is_ordinal, multiply, power, subtract

GREATEST = 10 ** 18 - 1
W = (1, 0)


def ordinals_up_to(size, most):
    """All ordinals with at most this many coefficients, each at most this great."""
    found = []
    for many in range(size + 1):
        for coefficients in itertools.product(range(most + 1), repeat=many):
            if many == 0 or coefficients[0] != 0:
                found.append(coefficients)
    return found


SMALL = ordinals_up_to(3, 2)
MIXED = SMALL + [(7,), (100, 3), (3, 1, 5), (1, 0, 0, 0, 0), (2, 0, 3, 0, 9), (5, 5, 5, 5, 5)]


class IsOrdinalTest(unittest.TestCase):
    def test_example(self):
        self.assertEqual([is_ordinal((3, 0, 5)), is_ordinal((0, 5)), is_ordinal(())], [True, False, True])

    def test_ordinals(self):
        for thing in [(), (1,), (7,), (1, 0), (GREATEST,), (1, GREATEST, 0), (1,) * 64, (1,) + (0,) * 63]:
            with self.subTest(thing=thing):
                self.assertIs(is_ordinal(thing), True)

    def test_leading_zeros(self):
        for thing in [(0,), (0, 0), (0, 1), (0, 0, 3)]:
            self.assertIs(is_ordinal(thing), False)

    def test_bounds(self):
        for thing in [(1,) * 65, (1,) + (0,) * 64, (0,) * 64, (10 ** 18,), (1, 10 ** 18), (10 ** 18, 0), (10 ** 40,)]:
            with self.subTest(thing=thing):
                self.assertIs(is_ordinal(thing), False)

    def test_negative_numbers(self):
        for thing in [(-1,), (1, -1), (-1, 1), -1, (-(10 ** 18),)]:
            self.assertIs(is_ordinal(thing), False)

    def test_bools_are_no_integers(self):
        for thing in [(True,), (1, False), (1, True), (True, 0), True, False]:
            self.assertIs(is_ordinal(thing), False)

    def test_other_objects(self):
        deep = (1,)
        for count in range(29):
            deep = (deep,) if count % 2 else [deep]
        things = [None, 0, 7, "", "w", "1", [], [1], [3, 0, 5], {}, {1: 2}, (None,), ("1",), ([1],), ((),), ((1,),),
                  ({},), (1, (2,)), (1, None), (1, "0"), (1, []), [(1, 0)], [[1], (1,), {"a": [1]}], deep, (1, deep)]
        for thing in things:
            with self.subTest(thing=thing):
                self.assertIs(is_ordinal(thing), False)

    def test_nothing_changes(self):
        for thing in [[1, 2], ([1], {"a": [2, (3,)]}), {"w": [1, {"v": 2}]}, [[], [[]]]]:
            before = copy.deepcopy(thing)
            is_ordinal(thing)
            self.assertEqual(thing, before)


class CompareTest(unittest.TestCase):
    def test_example(self):
        self.assertEqual([compare((1, 0), (7,)), compare((2, 1), (2, 3))], [1, -1])

    def test_ascending(self):
        ascending = [(), (1,), (2,), (GREATEST,), (1, 0), (1, 1), (1, 2), (2, 0), (2, 1), (GREATEST, GREATEST),
                     (1, 0, 0), (1, 0, 7), (1, 1, 0), (2, 0, 0), (1, 0, 0, 0)]
        for at, first in enumerate(ascending):
            for place, second in enumerate(ascending):
                with self.subTest(first=first, second=second):
                    self.assertEqual(compare(first, second), (at > place) - (at < place))


class DegreeAndPowerTest(unittest.TestCase):
    def test_examples(self):
        self.assertEqual([degree((3, 0, 5)), degree(())], [2, -1])
        self.assertEqual([power(2, 3), power(1), power(4, 0)], [(3, 0, 0), (1, 0), ()])

    def test_degree(self):
        self.assertEqual([degree((1,)), degree((GREATEST,)), degree(W), degree((1,) * 64)], [0, 0, 1, 63])

    def test_power(self):
        self.assertEqual([power(0), power(0, 1), power(0, 5), power(0, 0)], [(1,), (1,), (5,), ()])
        self.assertEqual([power(1, 1), power(3), power(1, 9), power(1, 0)], [(1, 0), (1, 0, 0, 0), (9, 0), ()])
        self.assertEqual(power(63, GREATEST), (GREATEST,) + (0,) * 63)

    def test_power_beyond_the_bounds_of_arguments(self):
        self.assertEqual(power(64), (1,) + (0,) * 64)
        self.assertEqual(power(1, 10 ** 18), (10 ** 18, 0))


class AddTest(unittest.TestCase):
    def test_example(self):
        self.assertEqual([add((7,), (1, 0)), add((1, 0), (7,))], [(1, 0), (1, 7)])

    def test_sums(self):
        cases = [
            ((), (), ()), ((), (3,), (3,)), ((3,), (), (3,)), ((), (1, 0), (1, 0)), ((1, 0), (), (1, 0)),
            ((2,), (3,), (5,)), ((1,), W, W), (W, (1,), (1, 1)), (W, W, (2, 0)), ((1, 5), W, (2, 0)),
            ((1, 5), (2, 3), (3, 3)), ((3, 1, 5), (2, 4), (3, 3, 4)), ((3, 1, 5), (2, 0, 0), (5, 0, 0)),
            ((3, 1, 5), (1, 0, 0, 0), (1, 0, 0, 0)), ((3, 0, 5), (4,), (3, 0, 9)), ((1, 0, 0, 0), (1, 0), (1, 0, 1, 0)),
            ((1, 2, 3, 4), (5, 0, 6), (1, 7, 0, 6)), ((2, 0, 0), (2, 0, 0), (4, 0, 0)),
        ]
        for first, second, expected in cases:
            with self.subTest(first=first, second=second):
                self.assertEqual(add(first, second), expected)

    def test_addition_is_associative_and_grows_in_the_second_ordinal(self):
        for a, b, c in itertools.product(SMALL, repeat=3):
            self.assertEqual(add(add(a, b), c), add(a, add(b, c)))
            self.assertEqual(compare(add(a, b), add(a, c)), compare(b, c))

    def test_beyond_the_bounds_of_arguments(self):
        self.assertEqual(add((GREATEST,), (1,)), (10 ** 18,))
        self.assertEqual(add((GREATEST, 7), (GREATEST, 3)), (2 * GREATEST, 3))


class MultiplyTest(unittest.TestCase):
    def test_example(self):
        self.assertEqual([multiply((1, 1), (2,)), multiply((2,), (1, 0))], [(2, 1), (1, 0)])

    def test_products(self):
        cases = [
            ((), (), ()), ((), (3,), ()), ((3,), (), ()), ((), W, ()), (W, (), ()), ((1,), (1,), (1,)),
            ((3,), (5,), (15,)), (W, W, (1, 0, 0)), (W, (2,), (2, 0)), ((5,), (1, 3), (1, 15)),
            ((3, 1, 5), (4,), (12, 1, 5)), ((3, 1, 5), W, (1, 0, 0, 0)), ((3, 1, 5), (2, 0), (2, 0, 0, 0)),
            ((3, 1, 5), (2, 4), (2, 12, 1, 5)), ((3, 1, 5), (2, 0, 4), (2, 0, 12, 1, 5)),
            ((2, 0), (3,), (6, 0)), ((1, 0, 1), (1, 1), (1, 1, 0, 1)), ((2,), (1, 0, 1), (1, 0, 2)),
        ]
        for first, second, expected in cases:
            with self.subTest(first=first, second=second):
                self.assertEqual(multiply(first, second), expected)

    def test_one_and_zero(self):
        for a in MIXED:
            self.assertEqual([multiply(a, (1,)), multiply((1,), a)], [a, a])
            self.assertEqual([multiply(a, ()), multiply((), a)], [(), ()])

    def test_powers_of_w(self):
        for a in MIXED[1:]:
            for exponent in range(1, 5):
                self.assertEqual(multiply(a, power(exponent)), power(degree(a) + exponent))

    def test_a_finite_factor_is_a_repeated_sum(self):
        for a in MIXED:
            total = ()
            for count in range(6):
                self.assertEqual(multiply(a, power(0, count)), total)
                total = add(total, a)

    def test_a_sum_on_the_right(self):
        for a, b, c in itertools.product(SMALL, repeat=3):
            self.assertEqual(multiply(a, add(b, c)), add(multiply(a, b), multiply(a, c)))

    def test_products_are_associative(self):
        few = ordinals_up_to(2, 2) + [(1, 0, 0), (2, 1, 3)]
        for a, b, c in itertools.product(few, repeat=3):
            self.assertEqual(multiply(multiply(a, b), c), multiply(a, multiply(b, c)))

    def test_beyond_the_bounds_of_arguments(self):
        self.assertEqual(multiply((GREATEST,), (GREATEST,)), (GREATEST * GREATEST,))
        self.assertEqual(multiply((1,) * 64, (1,) + (0,) * 63), (1,) + (0,) * 126)
        self.assertEqual(len(multiply((1,) * 64, (1,) * 64)), 127)


class SubtractTest(unittest.TestCase):
    def test_example(self):
        self.assertEqual(subtract((3, 1), (1, 4)), (2, 1))

    def test_differences(self):
        cases = [
            ((), (), ()), ((5,), (), (5,)), ((5,), (5,), ()), ((5,), (3,), (2,)), (W, (7,), W), (W, (), W), (W, W, ()),
            ((1, 7), W, (7,)), ((1, 7), (1, 7), ()), ((1, 7), (1, 3), (4,)), ((2, 0), (1, 9), W), ((2, 0), W, W),
            ((3, 0, 5), (3, 0, 5), ()), ((3, 0, 5), (3, 0, 2), (3,)), ((3, 0, 5), (2, 9, 9), (1, 0, 5)),
            ((3, 4, 5), (3, 1, 9), (3, 5)), ((3, 4, 5), (8, 9), (3, 4, 5)), ((3, 4, 5), (3, 4), (3, 4, 5)),
            ((1, 0, 0), (GREATEST, GREATEST), (1, 0, 0)),
        ]
        for first, second, expected in cases:
            with self.subTest(first=first, second=second):
                self.assertEqual(subtract(first, second), expected)

    def test_the_second_ordinal_plus_the_difference_is_the_first(self):
        for a, b in itertools.product(MIXED, repeat=2):
            if compare(b, a) <= 0:
                self.assertEqual(add(b, subtract(a, b)), a)
            else:
                with self.assertRaises(NotLater):
                    subtract(a, b)

    def test_there_is_exactly_one_difference(self):
        for b, c in itertools.product(MIXED, repeat=2):
            self.assertEqual(subtract(add(b, c), b), c)

    def test_not_later(self):
        for first, second in [((1,), (2,)), ((), (1,)), ((GREATEST,), W), ((1, 3), (1, 4)), ((1, 9), (2, 0)), (W, (1, 0, 0))]:
            with self.subTest(first=first, second=second):
                with self.assertRaises(NotLater):
                    subtract(first, second)


class DivideTest(unittest.TestCase):
    def test_example(self):
        self.assertEqual(divide((3, 1, 5), (1, 1)), ((3, 1), (4,)))

    def test_quotients(self):
        cases = [
            ((), (1,), (), ()), ((), W, (), ()), ((7,), (1,), (7,), ()), ((7,), (2,), (3,), (1,)), ((7,), (7,), (1,), ()),
            ((7,), (8,), (), (7,)), ((7,), W, (), (7,)), (W, (1,), W, ()), (W, (5,), W, ()), ((1, 7), (5,), (1, 1), (2,)),
            (W, W, (1,), ()), ((1, 7), W, (1,), (7,)), ((5, 7), (2, 0), (2,), (1, 7)), ((4, 0), (2, 1), (1,), (2, 0)),
            ((4, 1), (2, 1), (2,), ()), ((1, 0), (1, 1), (), (1, 0)), ((2, 0), (1, 1), (1,), (1, 0)),
            ((3, 0, 0), (1, 5), (3, 0), ()), ((1, 0, 0), W, (1, 0), ()), ((3, 1, 5), (2, 0, 9), (1,), (1, 1, 5)),
            ((3, 0, 5), (1, 0, 0, 0), (), (3, 0, 5)), ((2, 0, 0, 4), (3, 0), (2, 0, 0), (4,)),
        ]
        for dividend, divisor, quotient, remainder in cases:
            with self.subTest(dividend=dividend, divisor=divisor):
                self.assertEqual(divide(dividend, divisor), (quotient, remainder))

    def test_quotient_and_remainder_give_the_dividend(self):
        for a, b in itertools.product(MIXED, MIXED[1:]):
            quotient, remainder = divide(a, b)
            self.assertEqual(add(multiply(b, quotient), remainder), a)
            self.assertEqual(compare(remainder, b), -1)
            self.assertTrue(is_ordinal(quotient))
            self.assertTrue(is_ordinal(remainder))

    def test_it_returns_a_tuple(self):
        self.assertIsInstance(divide((7,), (2,)), tuple)
        self.assertIsInstance(divide((7,), W), tuple)

    def test_zero_divisor(self):
        for dividend in [(), (1,), W, (3, 1, 5)]:
            with self.assertRaises(ZeroDivisor):
                divide(dividend, ())


if __name__ == "__main__":
    unittest.main()
