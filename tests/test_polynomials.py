import itertools
import unittest

from evenmeet.polynomials import row_factor, row_rest, row_times
from tests.things import Drawn, all_rows, is_plain_prime, plain_product, plain_products

# Primes, with the most numbers of the rows that are gone through wholly.
WHOLE = [(2, 9), (3, 6), (5, 5), (7, 4), (11, 3), (13, 3)]


def all_trimmed(p, most):
    """All tuples of at most so many numbers, without noughts at the end."""
    told = []
    for many in range(most + 1):
        told += [row for row in itertools.product(range(p), repeat=many) if many == 0 or row[-1] != 0]
    return told


def drawn_trimmed(drawn, p, most):
    digits = [drawn.below(p) for place in range(drawn.below(most + 1))]
    while digits and digits[-1] == 0:
        digits.pop()
    return tuple(digits)


def plain_less(p, one, other):
    digits = [(a - b) % p for a, b in itertools.zip_longest(one, other, fillvalue=0)]
    while digits and digits[-1] == 0:
        digits.pop()
    return tuple(digits)


class RowCase(unittest.TestCase):
    def check_is_trimmed(self, p, told):
        self.assertIs(type(told), tuple)
        for digit in told:
            self.assertIs(type(digit), int)
            self.assertTrue(0 <= digit < p)
        self.assertTrue(told == () or told[-1] != 0)


class RowTimes(RowCase):
    def test_known_ones(self):
        self.assertEqual(row_times(2, (1, 1), (1, 1)), (1, 0, 1))
        self.assertEqual(row_times(3, (1, 1), (2, 1)), (2, 0, 1))
        self.assertEqual(row_times(5, (4,), (4,)), (1,))
        self.assertEqual(row_times(7, (0, 3), (2, 5, 6)), (0, 6, 1, 4))
        self.assertEqual(row_times(31, (30, 30), (30, 1)), (1, 0, 30))

    def test_nought_times_all_is_nought(self):
        for row in all_trimmed(3, 3):
            self.assertEqual(row_times(3, (), row), ())
            self.assertEqual(row_times(3, row, ()), ())
        self.assertEqual(row_times(2, (), ()), ())

    def test_one_times_all_is_the_same(self):
        for row in all_trimmed(5, 3):
            self.assertEqual(row_times(5, (1,), row), row)
            self.assertEqual(row_times(5, row, (1,)), row)

    def test_against_plain_going_through(self):
        for p, most in ((2, 5), (3, 3), (5, 2), (7, 2)):
            for one, other in itertools.product(all_trimmed(p, most), repeat=2):
                told = row_times(p, one, other)
                self.check_is_trimmed(p, told)
                self.assertEqual(told, plain_product(p, one, other))

    def test_longer_ones_and_greater_primes(self):
        drawn = Drawn(14)
        for p in (2, 3, 13, 31, 997, 999983):
            for turn in range(60):
                one = drawn_trimmed(drawn, p, 9)
                other = drawn_trimmed(drawn, p, 9)
                told = row_times(p, one, other)
                self.check_is_trimmed(p, told)
                digits = [0] * (len(one) + len(other))
                for (i, a), (j, b) in itertools.product(enumerate(one), enumerate(other)):
                    digits[i + j] = (digits[i + j] + a * b) % p
                self.assertEqual(told, plain_less(p, digits, ()))


class RowRest(RowCase):
    def test_known_ones(self):
        self.assertEqual(row_rest(2, (0, 0, 0, 1), (1, 1, 0, 1)), (1, 1))
        self.assertEqual(row_rest(3, (0, 0, 1), (1, 0, 1)), (2,))
        self.assertEqual(row_rest(5, (1, 2, 3), (3, 1)), (2,))
        self.assertEqual(row_rest(5, (1, 4, 3), (4, 1)), (3,))
        self.assertEqual(row_rest(7, (0, 0, 0, 0, 6), (0, 0, 1)), ())

    def test_of_nought_and_of_fewer_numbers_it_is_the_same(self):
        for by in ((0, 1), (1, 0, 1), (2, 1, 0, 1)):
            for row in all_trimmed(3, len(by) - 1):
                self.assertEqual(row_rest(3, row, by), row)

    def test_against_plain_going_through(self):
        for p, most, longest in ((2, 6, 4), (3, 4, 3), (5, 3, 2), (7, 3, 2)):
            for many in range(2, longest + 1):
                rows = all_rows(p, many)
                for by in rows:
                    products = [plain_product(p, by, other) for other in all_trimmed(p, most + 1 - many)]
                    for one in all_trimmed(p, most)[::3 if p > 3 else 1]:
                        told = row_rest(p, one, by)
                        self.check_is_trimmed(p, told)
                        self.assertLess(len(told), many)
                        self.assertIn(plain_less(p, one, told), products)

    def test_a_product_taken_by_one_of_both_leaves_nought(self):
        for p, most in ((2, 4), (3, 3), (5, 2)):
            rows = [row for many in range(2, most + 1) for row in all_rows(p, many)]
            for one, other in itertools.product(rows, repeat=2):
                self.assertEqual(row_rest(p, row_times(p, one, other), one), ())
                self.assertEqual(row_rest(p, row_times(p, one, other), other), ())
            for row in rows:
                self.assertEqual(row_rest(p, row, row), ())

    def test_longer_ones_and_greater_primes(self):
        drawn = Drawn(41)
        for p in (2, 3, 13, 31, 997, 999983):
            for turn in range(60):
                by = tuple(drawn.below(p) for place in range(1 + drawn.below(5))) + (1,)
                other = drawn_trimmed(drawn, p, 6)
                rest = plain_less(p, [drawn.below(p) for place in range(drawn.below(len(by)))], ())
                product = row_times(p, by, other)
                one = plain_less(p, product, [-digit for digit in rest])
                self.assertEqual(row_rest(p, one, by), rest)


class RowFactor(RowCase):
    def check(self, p, row, products):
        told = row_factor(p, row)
        if row not in products:
            self.assertIsNone(told, (p, row))
            return
        self.check_is_trimmed(p, told)
        self.assertTrue(2 <= len(told) < len(row), (p, row, told))
        self.assertEqual(told[-1], 1)
        others = all_rows(p, len(row) + 1 - len(told))
        self.assertTrue(any(plain_product(p, told, other) == row for other in others), (p, row, told))

    def test_every_row_of_small_primes(self):
        for p, most in WHOLE:
            for many in range(2, most + 1):
                products = plain_products(p, many)
                for row in all_rows(p, many):
                    self.check(p, row, products)

    def test_how_many_have_none(self):
        known = [(2, 2, 2), (2, 3, 1), (2, 4, 2), (2, 5, 3), (2, 6, 6), (2, 7, 9), (2, 8, 18), (3, 3, 3), (3, 4, 8)]
        known += [(3, 5, 18), (5, 3, 10), (5, 4, 40), (7, 3, 21)]
        for p, many, count in known:
            self.assertEqual(len([row for row in all_rows(p, many) if row_factor(p, row) is None]), count, (p, many))

    def test_rows_of_two_numbers_have_none(self):
        for p in (2, 3, 5, 7, 29, 31, 37, 997):
            for digit in sorted({0, 1, p - 1}):
                self.assertIsNone(row_factor(p, (digit, 1)))

    def test_a_square_and_one_by_greater_primes(self):
        for p in filter(is_plain_prime, range(3, 200)):
            told = row_factor(p, (1, 0, 1))
            if p % 4 == 3:
                self.assertIsNone(told, p)
            else:
                self.assertEqual((told[0] * told[0] + 1) % p, 0)
                self.assertEqual(told[1:], (1,))

    def test_products_whose_factors_are_long(self):
        # Neither of both has a factor, so one of them is told.
        one = (1, 1, 1)
        other = (1, 1, 0, 1)
        self.assertEqual(row_factor(2, plain_product(2, one, other)), one)
        self.assertEqual(row_factor(2, plain_product(2, other, other)), other)
        self.assertEqual(row_factor(2, plain_product(2, other, (1, 0, 1, 1))) in (other, (1, 0, 1, 1)), True)
        self.assertEqual(row_factor(3, plain_product(3, (1, 0, 1), (1, 0, 1))), (1, 0, 1))
        self.assertEqual(row_factor(5, plain_product(5, (2, 0, 1), (2, 0, 1))), (2, 0, 1))


class Unchanged(unittest.TestCase):
    def test_what_is_handed_in_stays_and_what_is_told_stays_the_same(self):
        one = (1, 2, 0, 2, 1)
        by = (2, 0, 1)
        for ask in (lambda: row_times(3, one, by), lambda: row_rest(3, one, by), lambda: row_factor(3, one)):
            self.assertEqual(ask(), ask())
            self.assertEqual((one, by), ((1, 2, 0, 2, 1), (2, 0, 1)))


if __name__ == "__main__":
    unittest.main()
