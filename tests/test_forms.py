import unittest

from evenmeet.errors import NoNumber
from evenmeet.forms import form_told, shuts
from tests.things import is_shut, no_wholes, told_numbers

MOST = 10 ** 6
SMALL = [n for n in range(-33, 34) if n != 0]


def odd_primes_within(*numbers):
    found = []
    for n in numbers:
        left = abs(n)
        p = 2
        while left > 1:
            if p * p > left:
                p = left
            while left % p == 0:
                left //= p
                if p != 2 and p not in found:
                    found.append(p)
            p += 1
    return found


def has_point_below(a, b, most):
    squares = {z * z for z in range(2 * most * (abs(a) + abs(b)))}
    sums = [(x, y, a * x * x + b * y * y) for x in range(most) for y in range(most)]
    return any(s in squares for x, y, s in sums if x or y)


class Told(unittest.TestCase):
    def check_point(self, a, b, told):
        word, x, y, z = told
        self.assertEqual(word, "point")
        self.assertEqual([type(n) for n in (x, y, z)], [int, int, int])
        self.assertNotEqual((x, y, z), (0, 0, 0))
        self.assertEqual(a * x * x + b * y * y, z * z, (a, b, told))

    def check(self, a, b):
        told = form_told(a, b)
        self.assertIs(type(told), tuple)
        if a < 0 and b < 0:
            self.assertEqual(told, ("sign",), (a, b))
        elif told[0] == "rest":
            self.assertEqual(len(told), 2)
            self.assertIs(type(told[1]), int)
            self.assertIs(shuts(a, b, told[1]), True, (a, b))
        else:
            self.check_point(a, b, told)
            for p in odd_primes_within(a, b):
                self.assertIs(shuts(a, b, p), False, (a, b, p))
        return told

    def test_each_small_form_has_a_point_or_what_shuts_it(self):
        for a in SMALL:
            for b in SMALL:
                told = self.check(a, b)
                shut = [p for p in odd_primes_within(a, b) if is_shut(a, b, p)]
                if told[0] == "rest":
                    self.assertIn(told[1], shut, (a, b))
                elif told[0] == "point":
                    self.assertEqual(shut, [], (a, b))

    def test_forms_that_are_shut_have_no_small_point(self):
        for a in range(-9, 10):
            for b in range(-9, 10):
                if a != 0 and b != 0 and form_told(a, b)[0] != "point":
                    self.assertFalse(has_point_below(a, b, 8), (a, b))

    def test_known_ones(self):
        self.check_point(1, 1, form_told(1, 1))
        self.check_point(1, -1, form_told(1, -1))
        self.check_point(-1, 2, form_told(-1, 2))
        self.check_point(5, -1, form_told(5, -1))
        self.assertEqual(form_told(-1, -1), ("sign",))
        self.assertEqual(form_told(3, -1), ("rest", 3))
        self.assertEqual(form_told(-1, 3), ("rest", 3))
        self.assertEqual(form_told(3, 3), ("rest", 3))
        self.assertEqual(form_told(-3, -3), ("sign",))
        self.assertEqual(form_told(5, 2), ("rest", 5))
        self.assertEqual(form_told(6, -1), ("rest", 3))
        self.assertEqual(form_told(9, -2)[0], "point")

    def test_the_sign_goes_ahead_of_a_prime(self):
        self.assertTrue(is_shut(-5, -2, 5))
        self.assertEqual(form_told(-5, -2), ("sign",))
        self.assertIs(shuts(-5, -2, 5), True)
        self.assertEqual(form_told(-4, -9), ("sign",))
        self.assertEqual(form_told(-MOST, -MOST), ("sign",))

    def test_a_square_in_them_changes_nothing_but_the_point(self):
        for a in range(-11, 12):
            for b in range(-11, 12):
                if a != 0 and b != 0:
                    bare = form_told(a, b)
                    for f, g in ((2, 1), (1, 3), (3, 3), (5, 6), (30, 4), (7, 90)):
                        told = self.check(a * f * f, b * g * g)
                        self.assertEqual(told[0], bare[0], (a, b, f, g))

    def test_shared_factors(self):
        for shared in (2, 3, 5, 6, 15, 21, 35):
            for a in range(-8, 9):
                for b in range(-8, 9):
                    if a != 0 and b != 0:
                        told = self.check(shared * a, shared * b)
                        if told[0] == "rest":
                            self.assertTrue(is_shut(shared * a, shared * b, told[1]))

    def test_large_numbers(self):
        numbers = told_numbers(1500, MOST)
        words = [self.check(a, b)[0] for a, b in zip(numbers, reversed(numbers))]
        self.assertEqual(sorted(set(words)), ["point", "rest", "sign"])

    def test_large_numbers_with_a_point(self):
        # a times u * u and b is a square, so there is a point with y = 1.
        found = 0
        for a in told_numbers(400, 1000):
            for u in (1, 17):
                for z in (1, 500, 901):
                    b = z * z - a * u * u
                    if b != 0 and abs(b) <= MOST:
                        found += 1
                        for one, other in ((a, b), (b, a)):
                            self.assertEqual(self.check(one, other)[0], "point", (one, other))
        self.assertGreater(found, 1000)

    def test_the_bounds(self):
        for a in (MOST, -MOST, 999983, -999983, 786433, 999999, -999999, 510510, -746130, 1, -1, 2, -2):
            for b in (MOST, -MOST, 999983, -999983, 786433, 999999, -999999, 510510, -746130, 1, -1, 2, -2):
                self.check(a, b)

    def test_refused(self):
        for thing in no_wholes() + [0]:
            for other in no_wholes() + [0, 1, -1, 12]:
                for handed in ((thing, other), (other, thing)):
                    with self.assertRaises(NoNumber, msg=repr(handed)):
                        form_told(*handed)


class Shuts(unittest.TestCase):
    def test_small_forms_and_all_small_numbers(self):
        numbers = [n for n in range(-27, 28) if n != 0] + [45, -50, 63, 75, -98, 147]
        for a in numbers:
            for b in numbers:
                for p in list(range(-3, 16)) + odd_primes_within(a, b):
                    self.assertIs(shuts(a, b, p), is_shut(a, b, p), (a, b, p))

    def test_a_prime_of_just_one_of_them(self):
        self.assertIs(shuts(3, 2, 3), True)
        self.assertIs(shuts(2, 3, 3), True)
        self.assertIs(shuts(3, 1, 3), False)
        self.assertIs(shuts(1, 3, 3), False)
        self.assertIs(shuts(-5, 3, 5), True)
        self.assertIs(shuts(-5, 4, 5), False)

    def test_a_prime_of_both(self):
        self.assertIs(shuts(3, 3, 3), True)
        self.assertIs(shuts(3, -3, 3), False)
        self.assertIs(shuts(5, 5, 5), False)
        self.assertIs(shuts(5, 10, 5), True)
        self.assertIs(shuts(-15, 21, 3), True)
        self.assertIs(shuts(15, 21, 3), False)
        self.assertIs(shuts(15, -21, 3), True)

    def test_a_prime_of_a_square_alone_shuts_nothing(self):
        self.assertIs(shuts(9, 2, 3), False)
        self.assertIs(shuts(2, 9, 3), False)
        self.assertIs(shuts(27, 2, 3), True)
        self.assertIs(shuts(27, 12, 3), True)
        self.assertIs(shuts(9, 9, 3), False)

    def test_no_number_but_an_odd_prime_shuts_a_form(self):
        for a in (3, 5, -6, 9, 15, 30, -45):
            for b in (2, 3, -1, 7, -15, 30):
                for p in (0, 1, 2, 4, 6, 8, 9, 15, 21, 25, 45, -1, -2, -3, -5, -15, MOST, -MOST):
                    self.assertIs(shuts(a, b, p), False, (a, b, p))

    def test_a_prime_of_none_of_them_shuts_nothing(self):
        for p in (3, 5, 7, 11, 13, 999983):
            for a in (1, 2, -2, -1, 17, 34):
                for b in (1, 2, -2, -1, 19, -38):
                    self.assertIs(shuts(a, b, p), False, (a, b, p))

    def test_large_primes(self):
        p = 999983
        squares = {x * x % p for x in range(p)}
        for n in list(range(-12, 0)) + list(range(1, 13)):
            self.assertIs(shuts(p, n, p), n % p not in squares)
            self.assertIs(shuts(n, -p, p), n % p not in squares)
        self.assertIs(shuts(p, p, p), -1 % p not in squares)
        self.assertIs(shuts(p, -p, p), False)

    def test_refused(self):
        for thing in no_wholes() + [0]:
            for other in no_wholes() + [0, 1, -1, 12]:
                for p in (0, 2, 3, 9):
                    for handed in ((thing, other, p), (other, thing, p)):
                        with self.assertRaises(NoNumber, msg=repr(handed)):
                            shuts(*handed)

    def test_a_third_thing_that_is_no_whole_number_is_refused(self):
        for thing in no_wholes():
            with self.assertRaises(NoNumber, msg=repr(thing)):
                shuts(3, 2, thing)


if __name__ == "__main__":
    unittest.main()
