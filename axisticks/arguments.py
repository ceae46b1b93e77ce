"""What several functions ask of their arguments."""

from axisticks.checks import is_whole
from axisticks.errors import InvalidNumber, InvalidRule
from axisticks.rules import Rule


def check_rule(rule):
    if not isinstance(rule, Rule):
        raise InvalidRule(rule)


def check_rules_of_one_base(one, other):
    check_rule(one)
    check_rule(other)
    if other.base != one.base:
        raise InvalidRule(other)


def check_number(number, least):
    """Refuse what is no whole number of at least `least`."""
    if not is_whole(number) or number < least:
        raise InvalidNumber(number)
