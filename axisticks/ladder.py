"""The steps of mantissas in ascending order, numbered as the rungs of a ladder."""

from axisticks.fitting import always_fits, measure, never_fits
from axisticks.powers import log_of, power_of


def rungs_of(base, mantissas):
    """Return the steps of the mantissas from 1 up to below the base, in ascending order."""
    top = log_of(base, max([int(mantissa) for mantissa in mantissas]))
    rungs = {}
    for mantissa in mantissas:
        power = -log_of(base, mantissa)
        rungs[mantissa * power_of(base, top + power)] = (mantissa, power)
    return [rungs[size] for size in sorted(rungs, key=int)]


def step_at(rungs, number):
    """Return the step with a number: 0 is the least one that is at least 1."""
    power, place = divmod(number, len(rungs))
    mantissa, shift = rungs[place]
    return mantissa, power + shift


def low_rung(base, rungs, most, length, digits):
    """Return a number below which no step fits a range of this length, wherever it is.

    Steps that go more than `most + 1` times into the length are too small for each kind.
    """
    spare = log_of(base, most + 1) + 1
    return (log_of(base, length) - digits - spare) * len(rungs)


def candidates(base, key, least, greatest):
    """Return the ascending steps of a rule that ranges of lengths between two whole ones can have."""
    kind, mantissas, most = key
    rungs = rungs_of(base, mantissas)
    number = low_rung(base, rungs, most, least, 0)
    steps = []
    enough = False
    while not enough:
        step = step_at(rungs, number)
        factor, size = measure(base, step, 0)
        if not never_fits(kind, most, size, least * factor):
            steps.append(step)
        enough = always_fits(kind, most, size, greatest * factor)
        number = number + 1
    return steps
