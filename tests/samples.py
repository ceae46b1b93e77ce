"""Rules and values that several tests use."""

from axisticks import errors
from axisticks.rules import Rule

KINDS = ("inside", "cover", "length")

MANTISSAS = [
    (2, [1]),
    (2, [3]),
    (2, [1, 3, 5, 15]),
    (3, [1, 2]),
    (3, [2, 5, 10]),
    (4, [1, 2, 6]),
    (6, [1, 2, 3]),
    (6, [4]),
    (10, [1, 2, 5]),
    (10, [1, 25]),
    (10, [2, 3, 15]),
    (10, [1, 2, 3, 5]),
]


def sample_rules(mosts=(1, 2, 5, 6)):
    """List rules of all kinds, with a `most` of 1 where the kind allows it."""
    rules = []
    for base, mantissas in MANTISSAS:
        for kind in KINDS:
            for most in mosts:
                if kind != "cover" or most >= 2:
                    rules.append(Rule(base, kind, mantissas, most))
    return rules


def told(rule):
    return "Rule({}, {!r}, {}, {})".format(rule.base, rule.kind, rule.mantissas, rule.most)


def any_values():
    """List values of every kind that are neither a rule nor a range nor a whole number."""
    return [
        None, True, False, "", "1", "inside", [], [1], [1, 2, 0], (), (1,), (1, 2), {}, {1: 2},
        errors.InvalidRule(3), [None, (True, {"a": []})],
    ]


def error_of(call, *arguments, **named):
    """Return the package's error that a call raises, None if it raises none."""
    try:
        call(*arguments, **named)
    except errors.AxisTicksError as error:
        return error
    return None
