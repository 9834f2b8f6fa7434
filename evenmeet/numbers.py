"""Whole numbers: shared divisors, primes, roots, plain parts, rests of squares."""

from evenmeet.errors import NoNumber


def is_whole(thing):
    return isinstance(thing, int) and not isinstance(thing, bool)


def is_below(thing, many):
    return is_whole(thing) and 0 <= thing < many


def is_just(thing, number):
    return is_whole(thing) and thing == number


def must_be_whole(thing):
    if not is_whole(thing):
        raise NoNumber("this is no whole number")


def must_be_from(least, thing):
    must_be_whole(thing)
    if thing < least:
        raise NoNumber(f"this is no whole number from {least} on")


def shared(a, b):
    must_be_whole(a)
    must_be_whole(b)
    divisor = abs(a)
    rest = abs(b)
    while rest > 0:
        smaller = divisor % rest
        divisor = rest
        rest = smaller
    return divisor


def primes_of(n):
    must_be_from(1, n)
    found = []
    left = n
    p = 2
    # What is left has no divisor below p, so each p that divides it is a prime.
    while p * p <= left:
        often = 0
        while left % p == 0:
            left = left // p
            often += 1
        if often > 0:
            found.append((p, often))
        p += 1
    if left > 1:
        found.append((left, 1))
    return found


def is_prime(p):
    return p > 1 and primes_of(p) == [(p, 1)]


def root_of(n):
    must_be_from(0, n)
    root = n
    # Newton's steps from above never fall below the answer, so the first root that fits is it.
    while root * root > n:
        root = (root + n // root) // 2
    return root


def plain_part(n):
    must_be_whole(n)
    if n == 0:
        raise NoNumber("0 has no plain part")
    factor = 1
    for p, often in primes_of(abs(n)):
        for turn in range(often // 2):
            factor = factor * p
    return (n // (factor * factor), factor)


def is_rest(n, p):
    must_be_whole(n)
    must_be_whole(p)
    if not is_prime(p):
        raise NoNumber("this is no prime")
    # Euler: by an odd prime this power is 0, or 1 for the rests of squares, or p - 1 for the others.
    return p == 2 or power_by(n, (p - 1) // 2, p) in (0, 1)


def power_by(n, exponent, p):
    power = 1
    square = n % p
    left = exponent
    while left > 0:
        if left % 2 == 1:
            power = power * square % p
        square = square * square % p
        left = left // 2
    return power


def least_no_rest(p):
    n = 2
    while is_rest(n, p):
        n += 1
    return n


def root_by_prime(n, p):
    # n is a rest of a square by p; told is a number whose square less n is a number of times p.
    if p == 2:
        return n % 2
    odd = p - 1
    while odd % 2 == 0:
        odd = odd // 2
    # Tonelli and Shanks: the root's square stays n times the excess, which is driven to 1.
    root = power_by(n, (odd + 1) // 2, p)
    excess = power_by(n, odd, p)
    turner = power_by(least_no_rest(p), odd, p)
    half = (p - 1) // odd // 4
    while half > 0:
        if power_by(excess, half, p) != 1:
            root = root * turner % p
            excess = excess * turner * turner % p
        turner = turner * turner % p
        half = half // 2
    return root


def root_by_plain(n, plain):
    # As root_by_prime, by a number from 1 on that no square above 1 divides.
    root = 0
    made = 1
    for p, often in primes_of(plain):
        # The power with p - 2 is what turns made into 1 by p, so root comes right by p as well.
        missing = (root_by_prime(n, p) - root) * power_by(made, p - 2, p) % p
        root = root + made * missing
        made = made * p
    return root
