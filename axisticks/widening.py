"""Ranges that rules of the kind "cover" widen in rounds, and whether they come to rest."""

from axisticks.arguments import check_number, check_rule
from axisticks.checks import is_span
from axisticks.errors import InvalidRange, InvalidRule, InvalidRules
from axisticks.paths import Paths
from axisticks.rounds import course, shape_behind, shape_of, span_of, widen
from axisticks.rules import Rule


def _are_rules(rules):
    if not isinstance(rules, list) or len(rules) == 0:
        return False
    if not all([isinstance(rule, Rule) and rule.kind == "cover" for rule in rules]):
        return False
    return all([rule.base == rules[0].base for rule in rules])


def _check_rules(rules):
    if not _are_rules(rules):
        raise InvalidRules(rules)


def _check_span(span):
    if not is_span(span):
        raise InvalidRange(span)


def _reduced(base, span):
    return span_of(base, shape_of(base, span))


def widened(rule, span):
    """Return the range from the first to the last mark of a rule of the kind "cover" for a range."""
    check_rule(rule)
    if rule.kind != "cover":
        raise InvalidRule(rule)
    _check_span(span)
    return _reduced(rule.base, widen(rule, span))


def behind(rules, span, rounds):
    """Return the range behind so many rounds, in each of which each rule widens it."""
    _check_rules(rules)
    _check_span(span)
    check_number(rounds, 0)
    base = rules[0].base
    return span_of(base, shape_behind(rules, shape_of(base, span), rounds))


def settle(rules, span):
    """Return `("settles", last, rounds)`, or `("grows", before, turn, power)` for a range that grows for ever."""
    _check_rules(rules)
    _check_span(span)
    base = rules[0].base
    before, turn, power, shape = course(rules, shape_of(base, span))
    if power == 0:
        return "settles", span_of(base, shape), before
    return "grows", before, turn, power


def grows(rules):
    """Return a range that grows for ever, `None` if all come to rest."""
    _check_rules(rules)
    last = rules[-1]
    # As a range grows, its ends become few multiples of a great step about 0: it grows for ever like one of these.
    for mantissa in last.mantissas:
        for many in range(1, last.most + 1):
            for place in range(-many, 1):
                span = (place * mantissa, (place + many) * mantissa, 0)
                if settle(rules, span)[0] == "grows":
                    return span
    return None


def most_rounds(rules):
    """Return the greatest number of rounds in which a range settles, `None` if there is none."""
    _check_rules(rules)
    return Paths(rules).most_rounds()


def slow(rules, rounds):
    """Return a range that settles in so many rounds or more, `None` if there is none."""
    _check_rules(rules)
    check_number(rounds, 0)
    span = Paths(rules).slow_span(rounds)
    return None if span is None else _reduced(rules[0].base, span)
