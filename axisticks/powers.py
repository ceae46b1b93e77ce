"""Powers of a base and their exponents, in whole numbers."""


def power_of(base, exponent):
    """Return the base to the power of an exponent of at least 0."""
    result = 1
    square = base
    rest = exponent
    while rest > 0:
        if rest % 2 == 1:
            result = result * square
        square = square * square
        rest = rest // 2
    return result


def log_of(base, number):
    """Return the exponent of the greatest power of the base that is at most a number of at least 1."""
    squares = [base]
    while squares[-1] * squares[-1] <= number:
        squares.append(squares[-1] * squares[-1])
    exponent = 0
    power = 1
    # Each square decides one binary digit of the exponent, the highest first.
    for square in reversed(squares):
        exponent = 2 * exponent
        if power * square <= number:
            power = power * square
            exponent = exponent + 1
    return exponent
