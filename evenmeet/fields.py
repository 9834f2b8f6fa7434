"""Fields: the numbers 0 to Q - 1, added and multiplied as rows of digits by a prime."""

from evenmeet.errors import NoField, NoNumber
from evenmeet.numbers import is_below, is_prime, is_whole, primes_of
from evenmeet.polynomials import digits_of, number_of, row_factor, row_rest, row_times

MOST_NUMBERS = 32


class Field:
    def __init__(self, p, row):
        must_be_row(p, row)
        self.many = size_within(p, row)
        must_be_prime(p)
        must_be_no_product(p, row)
        self.prime = p
        self.row = row

    def size(self):
        return self.many

    def plus(self, a, b):
        self.must_have(a)
        self.must_have(b)
        return joined(self.prime, a, b, 1)

    def minus(self, a, b):
        self.must_have(a)
        self.must_have(b)
        return joined(self.prime, a, b, -1)

    def times(self, a, b):
        self.must_have(a)
        self.must_have(b)
        product = row_times(self.prime, digits_of(self.prime, a), digits_of(self.prime, b))
        return number_of(self.prime, row_rest(self.prime, product, self.row))

    def back(self, a):
        self.must_have(a)
        if a == 0:
            raise NoNumber("0 has no back")
        return [b for b in range(self.many) if self.times(a, b) == 1][0]

    def first(self):
        return [a for a in range(1, self.many) if self.many_powers(a) == self.many - 1][0]

    def many_powers(self, a):
        # Of a number but 0: its powers come again from 1 on, so they are counted up to there.
        many = 1
        power = a
        while power != 1:
            power = self.times(power, a)
            many += 1
        return many

    def must_have(self, thing):
        if not is_below(thing, self.many):
            raise NoNumber("this is no number of the field")


def must_be_row(p, row):
    if not is_whole(p) or p < 2 or not isinstance(row, tuple) or len(row) < 2:
        raise NoField(None)
    if not all([is_below(digit, p) for digit in row]) or row[-1] != 1:
        raise NoField(None)


def size_within(p, row):
    many = 1
    for digit in row[1:]:
        many = many * p
        # Asked at each step: of a long row the whole power would be a very long number.
        if many > MOST_NUMBERS:
            raise NoField(None)
    return many


def must_be_prime(p):
    if not is_prime(p):
        raise NoField(primes_of(p)[0][0])


def must_be_no_product(p, row):
    factor = row_factor(p, row)
    if factor is not None:
        raise NoField(factor)


def joined(p, a, b, sign):
    number = 0
    power = 1
    one = a
    other = b
    while one > 0 or other > 0:
        # The rest by p is the lowest digit's own: nothing is carried to the next one.
        number += (one + sign * other) % p * power
        power = power * p
        one = one // p
        other = other // p
    return number
