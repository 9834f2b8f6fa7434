"""The form of a and b: a times x * x and b times y * y, together z * z."""

from evenmeet.numbers import is_prime, is_rest, must_be_whole, plain_part, primes_of, root_by_plain, shared


def form_told(a, b):
    plain_a = plain_part(a)
    plain_b = plain_part(b)
    s = plain_a[0]
    t = plain_b[0]
    if s < 0 and t < 0:
        return ("sign",)
    for p in odd_primes_of(s) + odd_primes_of(t):
        if prime_shuts_plain(s, t, p):
            return ("rest", p)
    point = plain_point(s, t)
    # x times the root taken out of a, and y times that of b, must keep the ratio that the plain point has.
    x = point[0] * plain_b[1]
    y = point[1] * plain_a[1]
    z = point[2] * plain_a[1] * plain_b[1]
    return ("point",) + lowest_terms(x, y, z)


def shuts(a, b, p):
    s = plain_part(a)[0]
    t = plain_part(b)[0]
    must_be_whole(p)
    return p != 2 and is_prime(p) and prime_shuts_plain(s, t, p)


def odd_primes_of(n):
    return [p for p, often in primes_of(abs(n)) if p != 2]


def prime_shuts_plain(s, t, p):
    if s % p == 0 and t % p == 0:
        return not is_rest(-(s // p) * (t // p), p)
    if s % p == 0:
        return not is_rest(t, p)
    if t % p == 0:
        return not is_rest(s, p)
    return False


def plain_point(s, t):
    # Legendre: where neither the signs nor an odd prime shuts the form of plain s and t it has a point.
    if s == 1:
        return (1, 0, 1)
    if t == 1:
        return (0, 1, 1)
    if abs(s) > abs(t):
        turned = plain_point(t, s)
        return (turned[1], turned[0], turned[2])
    return point_by_descent(s, t)


def point_by_descent(s, t):
    # Lagrange: w * w - s is t times a number of about a quarter of t's size, so the form of s and
    # that number's plain part is smaller; nothing shuts it either, and its point leads back.
    w = root_by_plain(s, abs(t))
    if 2 * w > abs(t):
        w = abs(t) - w
    smaller = plain_part((w * w - s) // t)
    point = plain_point(s, smaller[0])
    x = point[2] + w * point[0]
    y = smaller[0] * smaller[1] * point[1]
    z = w * point[2] + s * point[0]
    return lowest_terms(x, y, z)


def lowest_terms(x, y, z):
    divisor = shared(shared(x, y), z)
    return (abs(x) // divisor, abs(y) // divisor, abs(z) // divisor)
