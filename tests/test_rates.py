"""Points 9 to 11: fractions, sums, products, order, texts."""

import random
import re
import unittest
from fractions import Fraction

from goodtill.rates import (
    check_fraction, fraction_of, fraction_text, is_below, low_of, minus, over, plus, read_fraction, times, top_of,
)
from tests.told import ANYTHING, nested, told


def pair(number):
    return (number.numerator, number.denominator)


def number(one):
    return Fraction(*one)


def some_pairs(dice, many=200):
    """Pairs of fractions of all sizes up to 50 figures, of either sign."""
    for _ in range(many):
        size = dice.choice((1, 2, 10, 50))
        numbers = []
        for _ in range(2):
            n = dice.randint(-10 ** size + 1, 10 ** size - 1)
            numbers.append(Fraction(n, dice.randint(1, 10 ** dice.choice((1, size)) - 1)))
        yield numbers


class Form(unittest.TestCase):
    def test_fractions_are_returned_as_they_are(self):
        for value in ((0, 1), (1, 1), (-1, 1), (5, 3), (-5, 3), (10 ** 50 - 1, 10 ** 49), (1, 10 ** 50)):
            self.assertIs(check_fraction(value), value)

    def test_where_it_is_at_fault(self):
        cases = {
            -1: (None, True, 3, "1/2", "", (), (1,), (1, 2, 3), [1, 2], ((1, 2),), nested(100), nested(100, 1, list)),
            0: ((True, 2), (None, 2), ("1", 2), ((1,), 2), ([1], 2), (False, 1), ((1, 2), (1, 2))),
            1: ((1, True), (1, None), (1, "2"), (1, 0), (1, -1), (1, (2,)), (1, [2]), (0, False), (-3, -4)),
            2: ((0, 2), (2, 4), (-2, 4), (6, 9), (10, 5), (0, 10 ** 49), (3 * 10 ** 49, 9)),
        }
        for at, values in cases.items():
            for value in values:
                self.assertEqual(told(check_fraction, value), ("BadFraction", at), value)

    def test_the_first_fault_is_told(self):
        self.assertEqual(told(check_fraction, (True, 0)), ("BadFraction", 0))
        self.assertEqual(told(check_fraction, (None, None)), ("BadFraction", 0))
        self.assertEqual(told(check_fraction, (2, -2)), ("BadFraction", 1))
        self.assertEqual(told(check_fraction, (True, 0, 1)), ("BadFraction", -1))
        self.assertEqual(told(check_fraction, [2, 4]), ("BadFraction", -1))

    def test_any_value(self):
        good = ((0, 1),)
        for value in ANYTHING:
            kind, answer = told(check_fraction, value)
            self.assertEqual(kind == "gives", value in good and isinstance(value, tuple) and value[0] is not False)

    def test_fraction_of(self):
        for n in range(-12, 13):
            for d in range(-12, 13):
                if d == 0:
                    self.assertEqual(told(fraction_of, n, d), ("Refused", 0))
                else:
                    self.assertEqual(fraction_of(n, d), pair(Fraction(n, d)))
        big = 10 ** 50 - 1
        self.assertEqual(fraction_of(-big * 7, -big * 3), (7, 3))
        self.assertEqual(fraction_of(n=big, d=-1), (-big, 1))
        self.assertEqual(told(fraction_of, 0, 0), ("Refused", 0))


class Sums(unittest.TestCase):
    def test_sums_and_products(self):
        for one, two in some_pairs(random.Random(10)):
            self.assertEqual(plus(pair(one), pair(two)), pair(one + two))
            self.assertEqual(minus(pair(one), pair(two)), pair(one - two))
            self.assertEqual(times(pair(one), pair(two)), pair(one * two))
            self.assertEqual(is_below(pair(one), pair(two)), one < two)
            self.assertIs(is_below(pair(one), pair(one)), False)
            if two:
                self.assertEqual(over(pair(one), pair(two)), pair(one / two))

    def test_over_by_nought(self):
        for one in ((0, 1), (1, 2), (-10 ** 50, 3)):
            self.assertEqual(told(over, one, (0, 1)), ("Refused", (0, 1)))
        self.assertEqual(over((0, 1), (-5, 7)), (0, 1))
        self.assertEqual(over((1, 2), (-5, 7)), (-7, 10))

    def test_order_of_near_ones(self):
        big = 10 ** 50
        self.assertTrue(is_below((big - 1, big), (big, big + 1)))
        self.assertFalse(is_below((big, big + 1), (big - 1, big)))
        self.assertTrue(is_below((-big, big + 1), (1 - big, big)))

    def test_top_and_low(self):
        dice = random.Random(11)
        for _ in range(100):
            row = []
            for one, two in some_pairs(dice, dice.randint(0, 8)):
                row += [pair(one), None, pair(two)][: dice.randint(0, 3)]
            there = [number(one) for one in row if one is not None]
            self.assertEqual(top_of(tuple(row)), pair(max(there)) if there else None)
            self.assertEqual(low_of(tuple(row)), pair(min(there)) if there else None)

    def test_top_and_low_of_few(self):
        for row in ((), (None,), (None, None)):
            self.assertIsNone(top_of(row))
            self.assertIsNone(low_of(row))
        self.assertEqual(top_of((None, (0, 1))), (0, 1))
        self.assertEqual(low_of(((0, 1), None)), (0, 1))
        self.assertEqual(top_of(((-2, 1), (-1, 1), (-3, 1))), (-1, 1))
        self.assertEqual(low_of(((2, 1), (1, 3), (3, 1))), (1, 3))
        self.assertEqual(top_of(((1, 1),) * 60), (1, 1))


WHOLE = re.compile(r"(0|-?[1-9][0-9]*)(/[1-9][0-9]*)?\Z", re.ASCII)
BEGUN = re.compile(r"(-|(0|-?[1-9][0-9]*)(/([1-9][0-9]*)?)?)?\Z", re.ASCII)


def text_fault(text):
    """The at of a string, by rules written in another way; None if it is a fraction's text."""
    for at in range(len(text)):
        if not BEGUN.match(text[: at + 1]):
            return at
    if not WHOLE.match(text):
        return len(text)
    if "/" not in text:
        return None
    n, d = text.split("/")
    if d == "1" or pair(Fraction(int(n), int(d))) != (int(n), int(d)):
        return text.index("/") + 1
    return None


class Texts(unittest.TestCase):
    def told_of(self, text):
        fault = text_fault(text)
        if fault is None:
            n, _, d = text.partition("/")
            self.assertEqual(told(read_fraction, text), ("gives", (int(n), int(d or "1"))), text)
        else:
            self.assertEqual(told(read_fraction, text), ("BadText", fault), text)

    def test_every_text_is_read_back(self):
        for one, two in some_pairs(random.Random(12)):
            for value in (one, two):
                text = fraction_text(pair(value))
                self.assertEqual(text, str(value))
                self.assertEqual(read_fraction(text), pair(value))

    def test_texts_cut_gone_on_with_and_changed(self):
        texts = ("0", "5", "-7", "10", "-3/4", "12/35", "-120/7", "0/5", "6/4", "5/1", "1" * 50 + "/" + "9" * 49)
        for text in texts:
            for at in range(len(text) + 1):
                self.told_of(text[:at])
                for sign in "-0127/ +.a" + chr(0x664) + chr(0xb2):
                    self.told_of(text[:at] + sign + text[at:])
                    self.told_of(text[:at] + sign + text[at + 1:])
                    self.told_of(text[:at] + sign)

    def test_all_short_texts(self):
        signs = "-012/ "
        texts = [""]
        for _ in range(5):
            texts = [text + sign for text in texts for sign in signs] + [""]
            for text in texts:
                self.told_of(text)

    def test_the_three_cases_each_ahead_of_the_next(self):
        for value in (None, True, 5, (1, 2), ["1"], ("1", "2")):
            self.assertEqual(told(read_fraction, value), ("BadText", -1))
        self.assertEqual(told(read_fraction, ""), ("BadText", 0))
        self.assertEqual(told(read_fraction, "-"), ("BadText", 1))
        self.assertEqual(told(read_fraction, "-0"), ("BadText", 1))
        self.assertEqual(told(read_fraction, "00"), ("BadText", 1))
        self.assertEqual(told(read_fraction, "6/"), ("BadText", 2))
        self.assertEqual(told(read_fraction, "6/04"), ("BadText", 2))
        self.assertEqual(told(read_fraction, "6/4/"), ("BadText", 3))
        self.assertEqual(told(read_fraction, "6/4"), ("BadText", 2))
        self.assertEqual(told(read_fraction, "-12/1"), ("BadText", 4))
        self.assertEqual(told(read_fraction, "0/7"), ("BadText", 2))
        self.assertEqual(told(read_fraction, "0/1"), ("BadText", 2))

    def test_long_texts(self):
        self.assertEqual(read_fraction("7" * 120), (int("7" * 120), 1))
        self.assertEqual(told(read_fraction, "7" * 119 + "/"), ("BadText", 120))


if __name__ == "__main__":
    unittest.main()
