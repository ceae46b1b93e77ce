"""Counting what is so at low ends one by one, or in stretches between which it cannot change."""

from math import gcd


def turn_of(rules, length):
    """Return a whole number with which everything repeats that the rules say of ranges of a whole length."""
    turn = 1
    # A step that is not whole goes into its mantissa.
    for size in whole_steps(rules, length) + [mantissa for rule in rules for mantissa in rule.mantissas]:
        turn = turn * size // gcd(turn, size)
    return turn


def whole_steps(rules, length):
    """List the whole steps that may be taken at a length: less ones fit no range, the last one fits each."""
    sizes = []
    for rule in rules:
        whole = sorted(mantissa * rule.base ** power for mantissa in rule.mantissas for power in range(150))
        for size in whole:
            if size * (rule.most + 1) >= length:
                sizes.append(size)
            if size > length:
                break
    return sizes


def labels_one_by_one(label, turn):
    """List what is so at each low end of a turn."""
    return [label(low) for low in range(turn)]


def least_period(labels):
    """Return the least number of places by which labels that repeat can be turned without a change."""
    for period in range(1, len(labels) + 1):
        if len(labels) % period == 0 and labels == labels[period:] + labels[:period]:
            return period
    raise AssertionError("labels repeat at the latest with their number")


def stretches(label, turn, sizes, length):
    """List tuples `(first, past, label)` of low ends of a turn; within each no end meets a multiple of a step."""
    lows = {0, turn}
    for size in set(sizes):
        for low in range(0, turn, size):
            for at in (low, (low - length) % turn):
                lows.add(at)
                lows.add((at + 1) % turn)
    ordered = sorted(lows)
    return [(low, past, label(low)) for low, past in zip(ordered, ordered[1:])]


def primes_of(number):
    """List the prime numbers that divide a number that is made of small ones."""
    found = []
    for prime in (2, 3, 5, 7, 11, 13, 17, 19, 23, 29):
        if number % prime == 0:
            found.append(prime)
            while number % prime == 0:
                number //= prime
    assert number == 1
    return found
