"""How the step changes as a range grows at its high end."""

from axisticks.arguments import check_rule
from axisticks.checks import is_whole
from axisticks.errors import InvalidNumber
from axisticks.fitting import measure, reach


def _last_high(rule, low, step):
    """Return the greatest whole high end with which the step fits the range from a low end on."""
    factor, size = measure(rule.base, step, 0)
    return reach(rule.kind, rule.most, low * factor, size) // factor


def steps_from(rule, low, most_high):
    """Return the ascending `(high, step)` at which the step of the ranges from a low end on changes."""
    check_rule(rule)
    for number in (low, most_high):
        if not is_whole(number):
            raise InvalidNumber(number)
    if most_high <= low:
        raise InvalidNumber(most_high)
    changes = []
    high = low + 1
    # The greater the high end, the fewer steps fit: a step that is taken stays until it does not fit.
    while high <= most_high:
        step = rule.step((low, high, 0))
        changes.append((high, step))
        high = _last_high(rule, low, step) + 1
    return changes
