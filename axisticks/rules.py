"""Rules that choose the step and the marks of a range."""

from axisticks.checks import is_base, is_span, is_whole
from axisticks.errors import InvalidRange, InvalidRule
from axisticks.fitting import measure, reach
from axisticks.ladder import low_rung, rungs_of, step_at
from axisticks.powers import power_of

LEAST_MOST = {"inside": 1, "cover": 2, "length": 1}


def _kind_and_most_fit(kind, most):
    if not isinstance(kind, str) or kind not in LEAST_MOST:
        return False
    return is_whole(most) and most >= LEAST_MOST[kind]


def _mantissas_fit(base, mantissas):
    if not isinstance(mantissas, list) or len(mantissas) == 0:
        return False
    if not all([is_whole(mantissa) for mantissa in mantissas]):
        return False
    if len(set(mantissas)) != len(mantissas):
        return False
    return all([mantissa >= 1 and mantissa % base != 0 for mantissa in mantissas])


def _arguments_fit(base, kind, mantissas, most):
    return is_base(base) and _kind_and_most_fit(kind, most) and _mantissas_fit(base, mantissas)


def _is_dividing(base, rungs):
    lowest = min([int(power) for _, power in rungs])
    sizes = [mantissa * power_of(base, power - lowest) for mantissa, power in rungs]
    greater = sizes[1:] + [base * sizes[0]]
    return all([above % size == 0 for size, above in zip(sizes, greater)])


class Rule:
    """A rule that takes the least of its steps with which a range has not too many marks."""

    def __init__(self, base, kind, mantissas, most):
        if not _arguments_fit(base, kind, mantissas, most):
            raise InvalidRule((base, kind, mantissas, most))
        rungs = rungs_of(base, mantissas)
        self._base = base
        self._kind = kind
        self._mantissas = sorted(mantissas, key=int)
        self._most = most
        self._dividing = _is_dividing(base, rungs)
        self._rungs = rungs

    @property
    def base(self):
        return self._base

    @property
    def kind(self):
        return self._kind

    @property
    def mantissas(self):
        return list(self._mantissas)

    @property
    def most(self):
        return self._most

    @property
    def dividing(self):
        """Whether each step divides the next greater one."""
        return self._dividing

    def __eq__(self, other):
        if not isinstance(other, Rule):
            return False
        if self._base != other._base or self._kind != other._kind:
            return False
        return self._mantissas == other._mantissas and self._most == other._most

    def step(self, span):
        """Return the least step that fits a range, as `(mantissa, power)`."""
        if not is_span(span):
            raise InvalidRange(span)
        low, high, digits = span
        number = low_rung(self._base, self._rungs, self._most, high - low, digits)
        while not self._fits(step_at(self._rungs, number), span):
            number = number + 1
        return step_at(self._rungs, number)

    def marks(self, span):
        """Return `(first, last)`, the marks of a range as multiples of its step."""
        factor, size = measure(self._base, self.step(span), span[2])
        low = span[0] * factor
        high = span[1] * factor
        if self._kind == "cover":
            return low // size, -(-high // size)
        return -(-low // size), high // size

    def count(self, span):
        """Return how many marks a range has."""
        first, last = self.marks(span)
        return last - first + 1

    def _fits(self, step, span):
        low, high, digits = span
        factor, size = measure(self._base, step, digits)
        return high * factor <= reach(self._kind, self._most, low * factor, size)
