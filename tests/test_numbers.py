import copy
import math
import unittest

from evenmeet.errors import NoNumber
from evenmeet.numbers import is_rest, plain_part, primes_of, root_of, shared
from tests.things import is_plain_prime, no_wholes, told_numbers

MOST = 10 ** 6


class Refusing(unittest.TestCase):
    def refused(self, ask, *handed):
        kept = [copy.deepcopy(thing) if isinstance(thing, (list, dict)) else thing for thing in handed]
        with self.assertRaises(NoNumber, msg=repr(handed)):
            ask(*handed)
        self.assertEqual(list(handed), kept)


class Shared(Refusing):
    def test_small_numbers_against_all_divisors(self):
        for a in range(-30, 31):
            for b in range(-30, 31):
                both = [d for d in range(1, 31) if a % d == 0 and b % d == 0]
                self.assertEqual(shared(a, b), 0 if a == b == 0 else max(both), (a, b))

    def test_nought(self):
        self.assertEqual(shared(0, 0), 0)
        for n in (1, -1, 12, -12, MOST, -MOST):
            self.assertEqual(shared(0, n), abs(n))
            self.assertEqual(shared(n, 0), abs(n))

    def test_large_numbers(self):
        self.assertEqual(shared(-MOST, 999999), 1)
        self.assertEqual(shared(MOST, -MOST), MOST)
        numbers = told_numbers(200, MOST)
        for a, b in zip(numbers, reversed(numbers)):
            self.assertEqual(shared(a, b), math.gcd(a, b))
            self.assertEqual(shared(60 * a, 84 * a), 12 * abs(a))

    def test_what_is_no_whole_number_is_refused_in_either_place(self):
        for thing in no_wholes():
            for number in (0, 1, -6):
                self.refused(shared, thing, number)
                self.refused(shared, number, thing)
            for other in no_wholes():
                self.refused(shared, thing, other)


class Primes(Refusing):
    def check(self, n):
        told = primes_of(n)
        self.assertIs(type(told), list)
        product = 1
        last = 1
        for pair in told:
            self.assertIs(type(pair), tuple)
            prime, often = pair
            self.assertGreater(prime, last)
            self.assertGreaterEqual(often, 1)
            self.assertTrue(is_plain_prime(prime) if prime < 1000 else all(prime % d for d in range(2, 1001)), n)
            product *= prime ** often
            last = prime
        self.assertEqual(product, n)

    def test_known_ones(self):
        self.assertEqual(primes_of(1), [])
        self.assertEqual(primes_of(2), [(2, 1)])
        self.assertEqual(primes_of(4), [(2, 2)])
        self.assertEqual(primes_of(9), [(3, 2)])
        self.assertEqual(primes_of(97), [(97, 1)])
        self.assertEqual(primes_of(360), [(2, 3), (3, 2), (5, 1)])
        self.assertEqual(primes_of(997 * 997), [(997, 2)])
        self.assertEqual(primes_of(991 * 997), [(991, 1), (997, 1)])
        self.assertEqual(primes_of(999983), [(999983, 1)])
        self.assertEqual(primes_of(2 * 499979), [(2, 1), (499979, 1)])
        self.assertEqual(primes_of(2 ** 19), [(2, 19)])
        self.assertEqual(primes_of(MOST), [(2, 6), (5, 6)])

    def test_all_small_numbers(self):
        for n in range(1, 1500):
            self.check(n)

    def test_large_numbers(self):
        for n in told_numbers(100, MOST) + list(range(MOST - 20, MOST + 1)):
            self.check(abs(n))

    def test_the_told_list_is_the_askers_own(self):
        for n in (1, 7, 12):
            told = primes_of(n)
            kept = list(told)
            told.append((5, 5))
            told[0] = None
            self.assertEqual(primes_of(n), kept)

    def test_refused(self):
        for thing in no_wholes() + [0, -1, -2, -12, -MOST]:
            self.refused(primes_of, thing)


class Root(Refusing):
    def check(self, n):
        root = root_of(n)
        self.assertIs(type(root), int)
        self.assertGreaterEqual(root, 0)
        self.assertTrue(root * root <= n < (root + 1) * (root + 1), (n, root))

    def test_small_numbers(self):
        self.assertEqual([root_of(n) for n in range(10)], [0, 1, 1, 1, 2, 2, 2, 2, 2, 3])
        for n in range(2000):
            self.check(n)

    def test_squares_and_their_neighbours(self):
        for root in range(2, 1001):
            self.assertEqual(root_of(root * root - 1), root - 1)
            self.assertEqual(root_of(root * root), root)
            self.assertEqual(root_of(root * root + 1), root)

    def test_large_numbers(self):
        for n in told_numbers(300, MOST):
            self.check(abs(n))

    def test_refused(self):
        for thing in no_wholes() + [-1, -2, -4, -MOST]:
            self.refused(root_of, thing)


class PlainPart(Refusing):
    def check(self, n):
        told = plain_part(n)
        self.assertIs(type(told), tuple)
        plain, factor = told
        self.assertEqual(plain * factor * factor, n)
        self.assertGreaterEqual(factor, 1)
        self.assertFalse([d for d in range(2, 1001) if d * d <= abs(plain) and plain % (d * d) == 0], n)

    def test_known_ones(self):
        self.assertEqual(plain_part(1), (1, 1))
        self.assertEqual(plain_part(-1), (-1, 1))
        self.assertEqual(plain_part(2), (2, 1))
        self.assertEqual(plain_part(-4), (-1, 2))
        self.assertEqual(plain_part(8), (2, 2))
        self.assertEqual(plain_part(-16), (-1, 4))
        self.assertEqual(plain_part(32), (2, 4))
        self.assertEqual(plain_part(-72), (-2, 6))
        self.assertEqual(plain_part(30), (30, 1))
        self.assertEqual(plain_part(3 * 49 * 64), (3, 56))
        self.assertEqual(plain_part(999983), (999983, 1))
        self.assertEqual(plain_part(-997 * 997), (-1, 997))
        self.assertEqual(plain_part(MOST), (1, 1000))
        self.assertEqual(plain_part(-MOST), (-1, 1000))

    def test_small_numbers_of_either_sign(self):
        for n in range(1, 600):
            self.check(n)
            self.check(-n)

    def test_large_numbers(self):
        for n in told_numbers(100, MOST):
            self.check(n)

    def test_refused(self):
        for thing in no_wholes() + [0]:
            self.refused(plain_part, thing)


class Rest(Refusing):
    def test_small_primes_against_all_squares(self):
        for p in [p for p in range(2, 72) if is_plain_prime(p)]:
            squares = {x * x % p for x in range(p)}
            for n in range(-2 * p - 1, 2 * p + 2):
                self.assertIs(is_rest(n, p), n % p in squares, (n, p))

    def test_large_primes_against_all_squares(self):
        for p in (65537, 786433, 999983):
            squares = {x * x % p for x in range(p)}
            for n in list(range(-20, 21)) + told_numbers(40, MOST):
                self.assertIs(is_rest(n, p), n % p in squares, (n, p))

    def test_nought_and_multiples_of_the_prime(self):
        for p in (2, 3, 5, 7, 101, 999983):
            for n in (0, p, -p, 3 * p, -12 * p, p * p):
                self.assertIs(is_rest(n, p), True, (n, p))

    def test_what_is_no_whole_number_is_refused_in_either_place(self):
        for thing in no_wholes():
            for number in (0, 1, 2, 3, -3, 4):
                self.refused(is_rest, thing, number)
                self.refused(is_rest, number, thing)
            for other in no_wholes():
                self.refused(is_rest, thing, other)

    def test_what_is_no_prime_is_refused(self):
        for p in [p for p in range(-40, 200) if not is_plain_prime(p)] + [997 * 991, 997 * 997, MOST, -MOST]:
            for n in (0, 1, p, -5):
                self.refused(is_rest, n, p)


if __name__ == "__main__":
    unittest.main()
