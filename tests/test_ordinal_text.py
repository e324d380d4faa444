"""Point 6: the canonical texts of ordinals."""

import itertools
import re
import unittest

from limitrun.errors import InvalidOrdinal
from limitrun.ordinals import format_ordinal, is_ordinal, parse_ordinal

GREATEST = 10 ** 18 - 1
PAIRS = (
    ((), "0"), ((1,), "1"), ((7,), "7"), ((10,), "10"), ((GREATEST,), "9" * 18), ((1, 0), "w"), ((1, 1), "w + 1"),
    ((2, 0), "w*2"), ((2, 7), "w*2 + 7"), ((1, 0, 0), "w^2"), ((3, 0, 5), "w^2*3 + 5"), ((3, 1, 5), "w^2*3 + w + 5"),
    ((3, 2, 0), "w^2*3 + w*2"), ((1, 0, 0, 12, 0), "w^4 + w*12"), ((1,) + (0,) * 63, "w^63"),
    ((GREATEST,) + (0,) * 62 + (1,), "w^63*" + "9" * 18 + " + 1"), ((1,) + (0,) * 10, "w^10"),
)
COEFFICIENT = r"\*(?:[2-9]|[1-9][0-9]{1,17})"
TERM = re.compile(rf"w\^(?P<exponent>[2-9]|[1-5][0-9]|6[0-3])(?:{COEFFICIENT})?|(?P<w>w)(?:{COEFFICIENT})?|[1-9][0-9]{{0,17}}")


def is_canonical(text):
    """Say whether a text is canonical, from the words of point 6 alone."""
    if text == "0":
        return True
    exponents = []
    for part in text.split(" + "):
        found = TERM.fullmatch(part)
        if found is None:
            return False
        exponents.append(int(found["exponent"]) if found["exponent"] else 1 if found["w"] else 0)
    return all(first > second for first, second in zip(exponents, exponents[1:]))


class FormatTest(unittest.TestCase):
    def test_examples(self):
        self.assertEqual(format_ordinal((3, 1, 5)), "w^2*3 + w + 5")
        self.assertEqual(parse_ordinal("w*2 + 7"), (2, 7))
        with self.assertRaises(InvalidOrdinal):
            parse_ordinal("7 + w")

    def test_texts(self):
        for ordinal, text in PAIRS:
            with self.subTest(text=text):
                self.assertEqual(format_ordinal(ordinal), text)
                self.assertEqual(parse_ordinal(text), ordinal)

    def test_they_undo_each_other(self):
        for many in range(5):
            for coefficients in itertools.product((0, 1, 2, 30), repeat=many):
                if many == 0 or coefficients[0] != 0:
                    self.assertEqual(parse_ordinal(format_ordinal(coefficients)), coefficients)
        wide = tuple(range(1, 65))
        self.assertEqual(parse_ordinal(format_ordinal(wide)), wide)

    def test_every_exponent(self):
        for exponent in range(2, 64):
            self.assertEqual(parse_ordinal(f"w^{exponent}*5 + 3"), (5,) + (0,) * (exponent - 1) + (3,))

    def test_results_beyond_the_bounds_have_a_text(self):
        self.assertEqual(format_ordinal((1,) + (0,) * 64), "w^64")
        self.assertEqual(format_ordinal((10 ** 18, 0)), "w*1" + "0" * 18)


class InvalidTextTest(unittest.TestCase):
    def refuse(self, texts):
        for text in texts:
            with self.subTest(text=text[:60]):
                with self.assertRaises(InvalidOrdinal):
                    parse_ordinal(text)

    def test_spaces(self):
        self.refuse(["w+1", "w +1", "w+ 1", "w  + 1", "w +  1", " w", "w ", " 0", "0 ", " ", "w ^2", "w^ 2", "w* 2", "w *2",
                     "w\t+ 1", "w +\n1", "w\n", "\nw", "\t0", "1 0", "w + 1 ", " w + 1"])

    def test_exponents(self):
        self.refuse(["w^0", "w^1", "w^0*3", "w^1*3", "w^64", "w^65", "w^99", "w^100", "w^64*2 + 1", "w^02", "w^002", "w^", "w^ ",
                     "w^-1", "w^+2", "w^w", "w^(2)", "w^2^2", "w^^2", "^2", "w^*2", "w^1 + 1", "w^1" + "0" * 5000])
        self.assertEqual(parse_ordinal("w^63"), (1,) + (0,) * 63)

    def test_coefficients(self):
        self.refuse(["w*0", "w*1", "w^2*0", "w^2*1", "w*1 + 3", "w*1" + "0" * 18, "w^2*1" + "0" * 18, "1" + "0" * 18, "w*", "w^2*",
                     "w*02", "w*007", "w*w", "w**2", "w*2*3", "2*w", "*2", "w*-2", "w*+2", "w*2w", "w2", "2w", "ww"])
        self.assertEqual(parse_ordinal("w*" + "9" * 18), (GREATEST, 0))

    def test_zeros(self):
        self.refuse(["00", "01", "007", "w + 0", "0 + 1", "0 + w", "0 + 0", "w^2 + 0 + 1", "w + 01", "w + 00"])

    def test_signs_and_capitals(self):
        self.refuse(["-1", "+1", "-0", "+w", "-w", "w + -1", "w - 1", "w + +1", "W", "W + 1", "W^2", "w^2*3 + W", "1.0", "1_0", "0x1", "1e3"])

    def test_repeated_terms_and_other_orders(self):
        self.refuse(["7 + w", "1 + 1", "w + w", "w + w*2", "w^2 + w^2", "w + w^2", "5 + w^2*3", "w^2 + 1 + w", "w^2 + w + w", "w + 1 + 1",
                     "w^2*2 + w^2", "w^3 + w^2 + w^3"])

    def test_empty_parts(self):
        self.refuse(["", " + ", "w + ", " + w", "w +  + 1", "w + 1 + ", " + 1", "w + + 1", "+", " +", "+ ", "w +", "+ 1"])

    def test_many_digits(self):
        self.refuse(["9" * 5000, "1" + "0" * 4999, "0" * 5000, "w*" + "9" * 5000, "w^" + "9" * 5000, "w^2*3 + " + "1" * 5000, "9" * 10000])

    def test_long_texts(self):
        self.refuse(["1 + " * 2499 + "1", "w^2 + " * 1600, "w" * 10000, " " * 10000, "w^" * 5000, "*" * 10000, "~" * 10000])

    def test_other_texts(self):
        self.refuse(["omega", "x", "()", "(1, 0)", "w,1", "w/2", "w%2", "None", "True", "w#1", "w + x", "!", "~"])

    def test_all_short_texts(self):
        for size in range(6):
            for characters in itertools.product("w^*+ 012", repeat=size):
                text = "".join(characters)
                try:
                    ordinal = parse_ordinal(text)
                except InvalidOrdinal:
                    ordinal = None
                if is_canonical(text):
                    self.assertTrue(is_ordinal(ordinal), text)
                    self.assertEqual(format_ordinal(ordinal), text)
                else:
                    self.assertIsNone(ordinal, text)

    def test_one_character_changed(self):
        for original in ["w^12*34 + w*56 + 78", "w^63*2 + w^3 + w", "w^2*10 + 100"]:
            for at in range(len(original) + 1):
                for character in ["", "w", "^", "*", "+", " ", "0", "1", "9", "-", "W", "\t", "\n"]:
                    for behind in (at, at + 1):
                        text = original[:at] + character + original[behind:]
                        if is_canonical(text):
                            self.assertEqual(format_ordinal(parse_ordinal(text)), text)
                        else:
                            self.refuse([text])


if __name__ == "__main__":
    unittest.main()
