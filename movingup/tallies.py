"""Tallies: lists of numbers whose item m tells how many there are of size m."""

from math import comb


def added(a, b):
    """Return the tally of two kinds together."""
    if len(a) < len(b):
        a, b = b, a
    return [x + y for x, y in zip(a, b)] + a[len(b):]


def multiplied(a, b):
    """Return the tally of the pairs of one of each kind, by their sizes together."""
    numbers = [0] * (len(a) + len(b) - 1)
    for k, x in enumerate(a):
        for j, y in enumerate(b):
            numbers[k + j] += x * y
    return numbers


def mixed(a, b):
    """Return the tally of all sequences that are made of one sequence of each kind."""
    numbers = [0] * (len(a) + len(b) - 1)
    for k, x in enumerate(a):
        for j, y in enumerate(b):
            numbers[k + j] += comb(k + j, k) * x * y
    return numbers


def unmixed(numbers, b):
    """Return the tally that gives these numbers when it is mixed with b."""
    found = []
    for m in range(len(numbers) - len(b) + 1):
        # There is one empty sequence in b: what the longer ones add is taken off.
        longer = [comb(m, j) * b[j] * found[m - j] for j in range(1, min(m, len(b) - 1) + 1)]
        found.append(numbers[m] - sum(longer))
    return found


def number_at(tally, size):
    """Return how many there are of a size, which may be any whole number."""
    return tally[size] if 0 <= size < len(tally) else 0
