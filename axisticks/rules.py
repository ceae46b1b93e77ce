"""Rules that choose the step and the marks of a range."""

from axisticks.checks import is_span, is_whole
from axisticks.errors import InvalidRange, InvalidRule
from axisticks.fitting import measure, reach
from axisticks.powers import log_of, power_of

LEAST_MOST = {"inside": 1, "cover": 2, "length": 1}


def _kind_and_most_fit(kind, most):
    if not isinstance(kind, str) or kind not in LEAST_MOST:
        return False
    return is_whole(most) and most >= LEAST_MOST[kind]


def _mantissas_fit(base, mantissas):
    if not isinstance(mantissas, list) or len(mantissas) == 0:
        return False
    if not all([is_whole(mantissa) for mantissa in mantissas]):
        return False
    if len(set(mantissas)) != len(mantissas):
        return False
    return all([mantissa >= 1 and mantissa % base != 0 for mantissa in mantissas])


def _arguments_fit(base, kind, mantissas, most):
    if not is_whole(base) or base < 2:
        return False
    return _kind_and_most_fit(kind, most) and _mantissas_fit(base, mantissas)


def _rungs_by_size(base, mantissas):
    """Return the steps from 1 up to below the base, `(mantissa, power)`, by their sizes in one small unit."""
    top = log_of(base, max(mantissas, key=int))
    rungs = {}
    for mantissa in mantissas:
        power = -log_of(base, mantissa)
        rungs[mantissa * power_of(base, top + power)] = (mantissa, power)
    return rungs


def _is_dividing(base, sizes):
    greater = sizes[1:] + [base * sizes[0]]
    return all([above % size == 0 for size, above in zip(sizes, greater)])


class Rule:
    """A rule that takes the least of its steps with which a range has not too many marks."""

    def __init__(self, base, kind, mantissas, most):
        if not _arguments_fit(base, kind, mantissas, most):
            raise InvalidRule((base, kind, mantissas, most))
        rungs = _rungs_by_size(base, mantissas)
        sizes = sorted(rungs, key=int)
        self._base = base
        self._kind = kind
        self._mantissas = sorted(mantissas, key=int)
        self._most = most
        self._dividing = _is_dividing(base, sizes)
        self._rungs = [rungs[size] for size in sizes]

    @property
    def base(self):
        return self._base

    @property
    def kind(self):
        return self._kind

    @property
    def mantissas(self):
        return list(self._mantissas)

    @property
    def most(self):
        return self._most

    @property
    def dividing(self):
        """Whether each step divides the next greater one."""
        return self._dividing

    def __eq__(self, other):
        if not isinstance(other, Rule):
            return False
        if self._base != other._base or self._kind != other._kind:
            return False
        return self._mantissas == other._mantissas and self._most == other._most

    def step(self, span):
        """Return the least step that fits a range, as `(mantissa, power)`."""
        if not is_span(span):
            raise InvalidRange(span)
        low, high, digits = span
        rung = self._low_rung(high - low, digits)
        step = self._step_at(rung)
        while not self._fits(step, span):
            rung = rung + 1
            step = self._step_at(rung)
        return step

    def marks(self, span):
        """Return `(first, last)`, the marks of a range as multiples of its step."""
        factor, size = measure(self._base, self.step(span), span[2])
        low = span[0] * factor
        high = span[1] * factor
        if self._kind == "cover":
            return low // size, -(-high // size)
        return -(-low // size), high // size

    def count(self, span):
        """Return how many marks a range has."""
        first, last = self.marks(span)
        return last - first + 1

    def _step_at(self, rung):
        """Return a step by its rung: the steps are numbered in ascending order, 0 is the least that is at least 1."""
        power, place = divmod(rung, len(self._rungs))
        mantissa, shift = self._rungs[place]
        return mantissa, power + shift

    def _low_rung(self, length, digits):
        """Return a rung below which no step fits a range of this length, wherever it is.

        Steps that go more than `most + 1` times into the length are too small for each kind.
        """
        spare = log_of(self._base, self._most + 1) + 1
        return (log_of(self._base, length) - digits - spare) * len(self._rungs)

    def _fits(self, step, span):
        low, high, digits = span
        factor, size = measure(self._base, step, digits)
        return high * factor <= reach(self._kind, self._most, low * factor, size)
