"""Sets of ranges that rules tell apart, joined, met and compared exactly."""

from axisticks.arguments import check_number, check_rule, check_rules_of_one_base
from axisticks.checks import is_base, is_span, is_whole
from axisticks.errors import InvalidBase, InvalidEnd, InvalidFactor, InvalidNumber, InvalidRange, InvalidSet
from axisticks.formulas import holds, key_of, keys_of, mask_of
from axisticks.lines import bits_of, least_turn, line_of, runs_of
from axisticks.rows import has_members
from axisticks.stretches import simplest_member, stretches


def _check_operand(left, right):
    if not isinstance(right, RangeSet) or right.base != left.base:
        raise InvalidSet(right)


class RangeSet:
    """A set of ranges of a base; it is made by `every`, the functions of this module and operators."""

    def __init__(self, base, formula):
        self._base = base
        self._formula = formula

    @classmethod
    def every(cls, base):
        """Return the set of all ranges of a base."""
        if not is_base(base):
            raise InvalidBase(base)
        return cls(base, ("all",))

    @property
    def base(self):
        return self._base

    def __and__(self, other):
        _check_operand(self, other)
        return RangeSet(self._base, ("and", self._formula, other._formula))

    def __or__(self, other):
        _check_operand(self, other)
        return RangeSet(self._base, ("or", self._formula, other._formula))

    def __sub__(self, other):
        _check_operand(self, other)
        return RangeSet(self._base, ("and", self._formula, ("not", other._formula)))

    def __xor__(self, other):
        _check_operand(self, other)
        return RangeSet(self._base, ("xor", self._formula, other._formula))

    def __invert__(self):
        return RangeSet(self._base, ("not", self._formula))

    def __le__(self, other):
        _check_operand(self, other)
        return not has_members(self._base, ("and", self._formula, ("not", other._formula)))

    def __ge__(self, other):
        _check_operand(self, other)
        return not has_members(self._base, ("and", other._formula, ("not", self._formula)))

    def __lt__(self, other):
        return self <= other and not self >= other

    def __gt__(self, other):
        return self >= other and not self <= other

    def __eq__(self, other):
        if not isinstance(other, RangeSet) or other._base != self._base:
            return False
        return not has_members(self._base, ("xor", self._formula, other._formula))

    def __bool__(self):
        return bool(has_members(self._base, self._formula))

    def __contains__(self, span):
        if not is_span(span):
            raise InvalidRange(span)
        return holds(self._base, self._formula, span)

    def simplest(self):
        """Return the shortest member with whole ends, the one nearest above 0 of these; `None` without members."""
        return simplest_member(self._base, self._formula)

    def lengths(self):
        """Return the stretches of the lengths, from 1 up to below the base, at which some ranges are members."""
        return stretches(self._base, self._formula, False)

    def sure_lengths(self):
        """Return the stretches of the lengths, from 1 up to below the base, at which all ranges are members."""
        return stretches(self._base, self._formula, True)

    def share(self, length):
        """Return `(many, period)`: how many of the ranges of a whole length are members, up to where they repeat."""
        check_number(length, 1)
        line = line_of(self._base, keys_of(self._formula), length)
        turn = least_turn(runs_of(line, bits_of(mask_of(self._formula, line[0]), line[1])))
        return sum([many for bit, many in turn if bit == "1"]), sum([many for _, many in turn])


def counted(rule, least, most=None):
    """Return the set of the ranges for which a rule has at least `least` and at most `most` marks."""
    check_rule(rule)
    check_number(least, 0)
    if most is not None:
        check_number(most, 0)
    return RangeSet(rule.base, ("counted", key_of(rule), least, most))


def taken(rule, mantissa):
    """Return the set of the ranges for which the step of a rule has a mantissa."""
    check_rule(rule)
    if not is_whole(mantissa) or mantissa not in rule.mantissas:
        raise InvalidNumber(mantissa)
    return RangeSet(rule.base, ("taken", key_of(rule), mantissa))


def _is_factor(times):
    if not isinstance(times, tuple) or len(times) != 2:
        return False
    return all([is_whole(number) and number >= 1 for number in times])


def coarser(one, other, times=(1, 1)):
    """Return the set of the ranges for which a rule has a step greater than so many times that of another rule."""
    check_rules_of_one_base(one, other)
    if not _is_factor(times):
        raise InvalidFactor(times)
    return RangeSet(one.base, ("coarser", key_of(one), key_of(other), times[0], times[1]))


def touched(rule, end):
    """Return the set of the ranges of which an end, `"low"` or `"high"`, is a multiple of the step of a rule."""
    check_rule(rule)
    if not isinstance(end, str) or end not in ("low", "high"):
        raise InvalidEnd(end)
    return RangeSet(rule.base, ("touched", key_of(rule), end))
