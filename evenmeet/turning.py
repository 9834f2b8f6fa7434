"""Turning: bases developed into a layout, their differences, and whether a layout turns."""

from evenmeet.errors import NoBases
from evenmeet.layouts import MOST_BLOCKS, are_unlike_points, in_order, is_points_number


def developed(n, bases):
    must_be_bases(n, bases)
    blocks = []
    for base in bases:
        blocks.extend(all_turned(n, base))
    return (n, tuple(blocks))


def all_turned(n, block):
    return [turned(n, block, step) for step in range(n)]


def turned(n, block, step):
    return in_order([(point + step) % n for point in block])


def must_be_bases(n, bases):
    if not is_points_number(n) or n * len(bases) > MOST_BLOCKS:
        raise NoBases(None)
    for place, base in enumerate(bases):
        if not isinstance(base, (list, tuple)) or not are_unlike_points(base, n):
            raise NoBases(place)


def differences(n, bases):
    must_be_bases(n, bases)
    counts = [0] * n
    for base in bases:
        for one in base:
            for other in base:
                counts[(one - other) % n] += 1
    # At 0 each number less itself was counted.
    return counts[1:]


def turns_told(M):
    times = times_of_each(M[1])
    for number, block in enumerate(M[1]):
        if times.get(turned(M[0], block, 1), 0) < times[block]:
            return ("stays", number)
    # No block comes less often turned, so round the whole turn none comes more often either.
    bases = sorted(set([min(all_turned(M[0], block)) for block in M[1]]))
    return ("turns", [(base, times[base]) for base in bases])


def times_of_each(blocks):
    times = {}
    for block in blocks:
        times[block] = times.get(block, 0) + 1
    return times
