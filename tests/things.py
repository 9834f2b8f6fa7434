"""What the tests share: things that are no whole numbers, and plain ways to find an answer."""


def no_wholes():
    return [True, False, None, "", "6", "six", [], [6], [[1]], (), (6,), {}, {6: 6}, 6.0, 1.5, b"6", {6}, int, object()]


def is_plain_prime(p):
    return p > 1 and all(p % d != 0 for d in range(2, p))


def plain_of(n):
    """The plain part's first number, by going through all squares."""
    best = max(f for f in range(1, abs(n) + 1) if f * f <= abs(n) and n % (f * f) == 0)
    return n // (best * best)


def is_square_by(n, p):
    return any((x * x - n) % p == 0 for x in range(p))


def is_shut(a, b, p):
    """Point 5's words, step by step."""
    if p == 2 or not is_plain_prime(p):
        return False
    s = plain_of(a)
    t = plain_of(b)
    if s % p != 0 and t % p != 0:
        return False
    if s % p == 0 and t % p == 0:
        return not is_square_by(-(s // p) * (t // p), p)
    return not is_square_by(t if s % p == 0 else s, p)


def told_numbers(many, most):
    """Numbers from -most to most but 0, far apart, the same each time."""
    told = []
    state = 12345
    while len(told) < many:
        state = (state * 1103515245 + 12345) % (2 ** 31)
        number = (state // 8) % (2 * most + 1) - most
        if number != 0:
            told.append(number)
    return told
