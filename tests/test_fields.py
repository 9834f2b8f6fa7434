import itertools
import unittest

from evenmeet.errors import NoField, NoNumber
from evenmeet.fields import Field
from tests.things import EqualToAll, PlainField, all_rows, field_rows, is_plain_prime, no_wholes
from tests.things import plain_product, plain_products

SIZES = (2, 3, 4, 5, 7, 8, 9, 11, 13, 16, 17, 19, 23, 25, 27, 29, 31, 32)


def rows_of_all_fields():
    """Tuples (prime, row): up to nine numbers all, beyond that some rows of each size."""
    told = []
    for size in SIZES:
        p, rows = field_rows(size)
        kept = rows if size < 10 else rows[:2] + rows[-2:]
        told += [(p, row) for row in kept]
    return told


class FieldCase(unittest.TestCase):
    def check_number(self, told, wanted):
        self.assertIs(type(told), int)
        self.assertEqual(told, wanted)


class Made(FieldCase):
    def test_every_row_of_every_prime_within_the_bound(self):
        for p, most in ((2, 6), (3, 4), (5, 3), (7, 2), (11, 2), (13, 2), (17, 2), (19, 2), (23, 2), (29, 2), (31, 2)):
            for many in range(2, most + 1):
                products = plain_products(p, many)
                for row in all_rows(p, many):
                    if row not in products:
                        self.check_number(Field(p, row).size(), p ** (many - 1))

    def test_there_are_as_many_rows_as_known(self):
        known = {2: 2, 3: 3, 4: 1, 5: 5, 7: 7, 8: 2, 9: 3, 16: 3, 25: 10, 27: 8, 31: 31, 32: 6}
        for size, many in known.items():
            p, rows = field_rows(size)
            self.assertEqual(len(rows), many)
            self.assertEqual([Field(p, row).size() for row in rows], [size] * many)

    def test_asked_by_name(self):
        self.assertEqual(Field(p=2, row=(1, 1, 1)).size(), 4)


class Added(FieldCase):
    def test_known_ones(self):
        four = Field(2, (1, 1, 1))
        self.assertEqual([four.plus(a, b) for a, b in ((0, 0), (1, 1), (2, 3), (3, 1), (2, 0))], [0, 0, 1, 2, 2])
        nine = Field(3, (1, 0, 1))
        self.assertEqual([nine.plus(a, b) for a, b in ((2, 1), (5, 4), (8, 8), (3, 6), (7, 5))], [0, 6, 4, 0, 0])
        self.assertEqual([nine.minus(a, b) for a, b in ((0, 1), (4, 5), (0, 8), (3, 6), (7, 7))], [2, 2, 4, 6, 0])
        five = Field(5, (3, 1))
        self.assertEqual([five.plus(4, 3), five.minus(1, 4), five.minus(4, 1)], [2, 2, 3])

    def test_against_digits(self):
        for p, row in rows_of_all_fields():
            field = Field(p, row)
            plain = PlainField(p, row)
            for a, b in itertools.product(range(plain.q), repeat=2):
                told = field.plus(a, b)
                self.check_number(told, plain.plus(a, b))
                self.check_number(field.minus(told, b), a)

    def test_nothing_is_carried(self):
        field = Field(2, (1, 0, 1, 0, 0, 1))
        for a, b in itertools.product(range(32), repeat=2):
            self.assertEqual(field.plus(a, b), a ^ b)
            self.assertEqual(field.minus(a, b), a ^ b)


class Multiplied(FieldCase):
    def test_known_ones(self):
        four = Field(2, (1, 1, 1))
        self.assertEqual([four.times(a, b) for a, b in ((0, 3), (1, 3), (2, 2), (2, 3), (3, 3))], [0, 3, 3, 1, 2])
        nine = Field(3, (1, 0, 1))
        self.assertEqual([nine.times(a, b) for a, b in ((3, 3), (2, 2), (4, 4), (8, 7), (6, 3))], [2, 1, 6, 1, 1])
        # The lowest number of a row stands first.
        self.assertEqual(Field(2, (1, 1, 0, 1)).times(2, 4), 3)
        self.assertEqual(Field(2, (1, 0, 1, 1)).times(2, 4), 5)

    def test_with_a_row_of_two_numbers_it_is_by_the_prime(self):
        for p in filter(is_plain_prime, range(2, 32)):
            for row in ((0, 1), (1, 1), (p - 1, 1)):
                field = Field(p, row)
                for a, b in itertools.product(range(p), repeat=2):
                    self.check_number(field.times(a, b), a * b % p)
                    self.check_number(field.plus(a, b), (a + b) % p)
                    self.check_number(field.minus(a, b), (a - b) % p)

    def test_against_products_of_rows(self):
        for p, row in rows_of_all_fields():
            field = Field(p, row)
            plain = PlainField(p, row)
            for a, b in itertools.product(range(plain.q), repeat=2):
                self.check_number(field.times(a, b), plain.times(a, b))

    def test_a_product_less_the_told_one_is_divided_by_the_row(self):
        for p, row in ((2, (1, 1, 1)), (2, (1, 1, 0, 1)), (2, (1, 0, 1, 1)), (3, (2, 1, 1)), (3, (1, 0, 1))):
            field = Field(p, row)
            plain = PlainField(p, row)
            multiples = {plain_product(p, row, plain.digits(a)) for a in range(field.size())}
            for a, b in itertools.product(range(field.size()), repeat=2):
                product = list(plain_product(p, plain.digits(a), plain.digits(b))) + [0] * len(row)
                for place, digit in enumerate(plain.digits(field.times(a, b))):
                    product[place] = (product[place] - digit) % p
                self.assertIn(plain_product(p, product, (1,)), multiples)

    def test_the_row_read_with_the_unknown_is_nought(self):
        for p, row in rows_of_all_fields():
            if len(row) > 2:
                field = Field(p, row)
                total = 0
                for digit in reversed(row):
                    total = field.plus(field.times(total, p), digit)
                self.assertEqual(total, 0)

    def test_products_go_through_sums(self):
        for size in (4, 8, 9):
            p, rows = field_rows(size)
            for row in rows:
                field = Field(p, row)
                for a, b, c in itertools.product(range(size), repeat=3):
                    product = field.times(a, field.plus(b, c))
                    self.assertEqual(product, field.plus(field.times(a, b), field.times(a, c)))
                    self.assertEqual(field.times(a, field.times(b, c)), field.times(field.times(a, b), c))


class Back(FieldCase):
    def test_known_ones(self):
        self.assertEqual([Field(7, (0, 1)).back(a) for a in range(1, 7)], [1, 4, 5, 2, 3, 6])
        self.assertEqual([Field(2, (1, 1, 1)).back(a) for a in range(1, 4)], [1, 3, 2])
        self.assertEqual(Field(2, (0, 1)).back(1), 1)

    def test_each_number_but_nought_has_just_one(self):
        for p, row in rows_of_all_fields():
            field = Field(p, row)
            plain = PlainField(p, row)
            for a in range(1, plain.q):
                backs = [b for b in range(plain.q) if plain.times(a, b) == 1]
                self.assertEqual(len(backs), 1)
                self.check_number(field.back(a), backs[0])

    def test_of_nought_there_is_none(self):
        for p, row in rows_of_all_fields():
            with self.assertRaises(NoNumber):
                Field(p, row).back(0)


class First(FieldCase):
    def test_known_ones(self):
        for p, first in {2: 1, 3: 2, 5: 2, 7: 3, 11: 2, 13: 2, 17: 3, 19: 2, 23: 5, 29: 2, 31: 3}.items():
            self.assertEqual(Field(p, (0, 1)).first(), first)
            self.assertEqual(Field(p, (p - 1, 1)).first(), first)
        self.assertEqual(Field(2, (1, 1, 1)).first(), 2)
        self.assertEqual(Field(2, (1, 1, 1, 1, 1)).first(), 3)
        self.assertEqual(Field(3, (1, 0, 1)).first(), 4)
        self.assertEqual(Field(3, (2, 1, 1)).first(), 3)

    def test_the_least_whose_powers_are_all_but_nought(self):
        for p, row in rows_of_all_fields():
            plain = PlainField(p, row)
            whole = []
            for a in range(plain.q):
                powers = {a}
                power = a
                for turn in range(plain.q):
                    power = plain.times(power, a)
                    powers.add(power)
                if powers == set(range(1, plain.q)):
                    whole.append(a)
            field = Field(p, row)
            self.check_number(field.first(), min(whole))


class Refused(unittest.TestCase):
    def refused(self, p, row):
        with self.assertRaises(NoField) as caught:
            Field(p, row)
        return caught.exception.factor

    def test_a_prime_of_any_kind_that_is_no_number_above_one(self):
        for thing in no_wholes() + [EqualToAll(), 1, 0, -1, -2, -3, -10 ** 6]:
            for row in ((0, 1), (1, 1, 1), (1,), (), None):
                self.assertIsNone(self.refused(thing, row), (thing, row))

    def test_a_row_of_any_kind_that_is_none(self):
        for p in (2, 3, 5, 7, 31):
            for thing in no_wholes() + [EqualToAll(), 1, p, (1,), (0,), [0, 1], [1, 1, 1], "01", {0: 1, 1: 1}]:
                self.assertIsNone(self.refused(p, thing), (p, thing))

    def test_a_row_with_a_thing_that_is_no_digit(self):
        for p in (2, 3, 5):
            for thing in no_wholes() + [EqualToAll(), -1, p, p + 1, -p, 10 ** 6]:
                for row in ((thing, 1), (1, thing, 1), (thing, 1, 1), (0, thing), (1, 0, thing)):
                    self.assertIsNone(self.refused(p, row), (p, row))

    def test_a_row_whose_last_number_is_not_one(self):
        for p, row in ((2, (1, 0)), (2, (1, 1, 0)), (3, (0, 2)), (3, (1, 0, 2)), (5, (1, 4)), (31, (1, 30))):
            self.assertIsNone(self.refused(p, row), (p, row))

    def test_too_many_numbers(self):
        self.assertIsNone(self.refused(37, (0, 1)))
        self.assertIsNone(self.refused(999983, (0, 1)))
        for p, row in ((2, (1, 1, 0, 0, 0, 0, 1)), (3, (2, 1, 0, 0, 1)), (5, (1, 1, 0, 1)), (7, (1, 0, 1))):
            self.assertNotIn(row, plain_products(p, len(row)))
            self.assertIsNone(self.refused(p, row), (p, row))
        self.assertIsNone(self.refused(2, (1,) * 100001))

    def test_no_prime(self):
        for p in range(2, 33):
            if not is_plain_prime(p):
                least = min(d for d in range(2, p + 1) if p % d == 0)
                for row in ((0, 1), (1, 1), (p - 1, 1)):
                    told = self.refused(p, row)
                    self.assertIs(type(told), int)
                    self.assertEqual(told, least)
        for row in all_rows(4, 3):
            self.assertEqual(self.refused(4, row), 2)

    def test_a_product_of_rows(self):
        for p, most in ((2, 6), (3, 4), (5, 3)):
            for many in range(3, most + 1):
                for row in plain_products(p, many):
                    told = self.refused(p, row)
                    self.assertIs(type(told), tuple)
                    self.assertTrue(2 <= len(told) < many)
                    self.assertTrue(all(type(digit) is int and 0 <= digit < p for digit in told))
                    self.assertEqual(told[-1], 1)
                    others = all_rows(p, many + 1 - len(told))
                    self.assertTrue(any(plain_product(p, told, other) == row for other in others))

    def test_two_faults_at_once(self):
        # No row, or too many numbers, and no prime.
        for p, row in ((4, (4, 1)), (4, [0, 1]), (4, (1, 3)), (4, (1,)), (9, (True, 1)), (6, None)):
            self.assertIsNone(self.refused(p, row), (p, row))
        for p, row in ((33, (0, 1)), (34, (1, 1)), (6, (0, 0, 1)), (4, (0, 0, 0, 1)), (10 ** 6, (0, 1))):
            self.assertIsNone(self.refused(p, row), (p, row))
        # Too many numbers, and a product.
        for p, row in ((2, (0, 0, 0, 0, 0, 0, 1)), (3, (0, 0, 0, 0, 1)), (7, (0, 0, 1)), (5, (0, 0, 0, 1))):
            self.assertIn(row, plain_products(p, len(row)))
            self.assertIsNone(self.refused(p, row), (p, row))
        # No row, and a product if its last number were not looked at.
        self.assertIsNone(self.refused(3, (0, 0, 2)))
        # No prime, and a product.
        self.assertEqual(self.refused(4, (0, 0, 1)), 2)
        self.assertEqual(self.refused(4, (1, 2, 1)), 2)


class Numbers(unittest.TestCase):
    def test_what_is_no_number_of_the_field_in_each_place(self):
        for p, row in ((2, (0, 1)), (2, (1, 1, 1)), (3, (1, 0, 1)), (7, (3, 1)), (2, (1, 0, 1, 0, 0, 1))):
            field = Field(p, row)
            size = field.size()
            for thing in no_wholes() + [EqualToAll(), size, size + 1, -1, -size, 10 ** 6, -10 ** 6]:
                for ask in (field.plus, field.minus, field.times):
                    for one, other in ((thing, 0), (0, thing), (thing, size - 1), (size - 1, thing), (thing, thing)):
                        with self.assertRaises(NoNumber):
                            ask(one, other)
                with self.assertRaises(NoNumber):
                    field.back(thing)

    def test_the_least_and_the_greatest_are_numbers(self):
        for p, row in rows_of_all_fields():
            field = Field(p, row)
            last = field.size() - 1
            self.assertEqual(field.plus(0, last), last)
            self.assertEqual(field.plus(last, 0), last)
            self.assertEqual(field.minus(last, last), 0)
            self.assertEqual(field.minus(last, 0), last)
            self.assertEqual(field.times(last, 0), 0)
            self.assertEqual(field.times(0, last), 0)
            self.assertEqual(field.times(last, 1), last)
            self.assertEqual(field.times(last, field.back(last)), 1)


class Kept(unittest.TestCase):
    def test_fields_stand_beside_each_other_and_a_refusal_changes_none(self):
        one = Field(2, (1, 1, 0, 1))
        other = Field(2, (1, 0, 1, 1))
        for turn in range(2):
            self.assertEqual((one.times(2, 4), other.times(2, 4)), (3, 5))
            self.assertEqual((one.first(), other.first()), (2, 2))
            for ask in (lambda: Field(2, (0, 0, 1)), lambda: one.times(8, 1), lambda: other.back(0)):
                with self.assertRaises(ValueError):
                    ask()


if __name__ == "__main__":
    unittest.main()
