"""Rows of digits by a prime, the lowest first, read as sums of powers of one unknown."""


def row_times(p, one, other):
    product = [0] * (len(one) + len(other))
    for place, digit in enumerate(one):
        for further, factor in enumerate(other):
            product[place + further] += digit * factor
    return trimmed([digit % p for digit in product])


def row_rest(p, one, by):
    left = list(one)
    while len(left) >= len(by):
        # The row ends with 1, so taken off top times it clears the top, which pop has dropped already.
        top = left.pop()
        start = len(left) + 1 - len(by)
        for place, digit in enumerate(by[:-1], start=start):
            left[place] = (left[place] - top * digit) % p
    return trimmed(left)


def row_factor(p, row):
    # Of two rows that make it, one has no higher power than half of its own; so none beyond is tried.
    power = 1
    for higher in range((len(row) - 1) // 2):
        power = power * p
        # Just these numbers have digits that end with 1 at this power.
        for number in range(power, 2 * power):
            factor = digits_of(p, number)
            if row_rest(p, row, factor) == ():
                return factor
    return None


def trimmed(digits):
    many = len(digits)
    while many > 0 and digits[many - 1] == 0:
        many -= 1
    return tuple(digits[:many])


def digits_of(p, number):
    digits = []
    left = number
    while left > 0:
        digits.append(left % p)
        left = left // p
    return tuple(digits)


def number_of(p, digits):
    number = 0
    for digit in reversed(digits):
        number = number * p + digit
    return number
