"""The errors of the package: each holds the argument that it refuses as `value`."""


class AxisTicksError(ValueError):
    """The base of all errors of the package."""


class InvalidRule(AxisTicksError):
    """Arguments that make no rule, or an argument that has to be a rule and is none."""

    def __init__(self, value=None):
        self.value = value


class InvalidRange(AxisTicksError):
    """An argument that has to be a range and is none."""

    def __init__(self, value=None):
        self.value = value


class InvalidSet(AxisTicksError):
    """A right operand that is no set of ranges of the left one's base."""

    def __init__(self, value=None):
        self.value = value


class InvalidBase(AxisTicksError):
    """An argument that has to be a base and is none."""

    def __init__(self, value=None):
        self.value = value


class InvalidNumber(AxisTicksError):
    """A number that does not fit."""

    def __init__(self, value=None):
        self.value = value


class InvalidFactor(AxisTicksError):
    """An argument that has to be a factor between steps and is none."""

    def __init__(self, value=None):
        self.value = value


class InvalidEnd(AxisTicksError):
    """An argument that names no end of a range."""

    def __init__(self, value=None):
        self.value = value


class InvalidRules(AxisTicksError):
    """An argument that is no list of rules that widen ranges together."""

    def __init__(self, value=None):
        self.value = value
