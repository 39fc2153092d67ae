"""is_integer: True for integers alone (points 2 and 4); and what the package itself uses besides."""

import unittest
from fractions import Fraction

from spreadstates.wholes import bits_of, is_integer, is_within, lowest, number_of, power
from tests.samples import kinds_of_values, wrong_items


class Integers(unittest.TestCase):
    def test_integers(self):
        for value in (0, 1, -1, 2, 999, -10 ** 30, 10 ** 30, 2 ** 64, 10 ** 900):
            with self.subTest(value=value):
                self.assertIs(is_integer(value), True)

    def test_truth_values_are_none(self):
        self.assertIs(is_integer(True), False)
        self.assertIs(is_integer(False), False)

    def test_all_else_is_none(self):
        for values in (kinds_of_values(), wrong_items()):
            for name, value in values.items():
                with self.subTest(name=name):
                    self.assertIs(is_integer(value), False)

    def test_by_name(self):
        self.assertIs(is_integer(value=3), True)
        self.assertIs(is_integer(value=None), False)

    def test_within_a_range(self):
        self.assertEqual([is_within(value, 0, 2) for value in (-1, 0, 1, 2, 3)], [False, True, True, True, False])
        for name, value in wrong_items().items():
            with self.subTest(name=name):
                self.assertIs(is_within(value, 0, 2), False)

    def test_powers(self):
        for base in (0, 1, 2, 3, 4096, -3):
            for exponent in range(70):
                self.assertEqual(power(base, exponent), base ** exponent)
        for exponent in (127, 128, 2000, 4095, 4096, 4161, 4225, 8191, 300000):
            self.assertEqual(power(257, exponent), 257 ** exponent)

    def test_fractions_in_lowest_terms(self):
        for above in range(-12, 13):
            for below in range(1, 13):
                expected = Fraction(above, below)
                self.assertEqual(lowest(above, below), (expected.numerator, expected.denominator))

    def test_bits(self):
        for width in range(7):
            for number in range(2 ** width):
                bits = bits_of(number, width)
                self.assertEqual(bits, [int(letter) for letter in format(number, "b").rjust(width, "0")][:width])
                self.assertEqual(number_of(bits), number)


if __name__ == "__main__":
    unittest.main()
