"""Classes of ranges with which rounds do the same, and how they follow each other.

From round to round a range is looked at where the first rule has widened it: it is some steps of this rule long, and
its low end is a multiple of the step. What the rules do with it up to some length depends on the low end modulo a
common multiple of the steps that count for this length. A class is a tuple `(mantissa, many, place)`: the step is the
mantissa (a power of the base does not matter), the length so many steps, and the low end `place` steps modulo the
modulus of the length. As a range grows, more is to be known of its low end: so a class may be followed by several
ones, and for each way through classes there are ranges that go it.
"""

from math import lcm

from axisticks.formulas import key_of
from axisticks.ladder import candidates
from axisticks.powers import log_of, power_of


def _digits(base, keys):
    """Return with how many digits all steps are whole that count for lengths of at least 1."""
    digits = 0
    for _, mantissas, most in keys:
        for mantissa in mantissas:
            digits = max(int(digits), log_of(base, base * most * mantissa) + 1)
    return digits


def _greatest_multiple(base, mantissa, size):
    """Return the greatest product of a mantissa and a power of the base that is at most a size."""
    return mantissa * power_of(base, log_of(base, size // mantissa))


class Classes:
    """The classes of rules of the kind "cover", with numbers that are told so that all their steps are whole."""

    def __init__(self, rules):
        self._root = rules[0].base
        self._keys = [key_of(rule) for rule in rules]
        self._one = power_of(self._root, _digits(self._root, self._keys))
        self._lengths = {}

    def _steps_at(self, length):
        """Return `(ladders, modulus)` of a length: the steps that each rule may take, and what is to be known."""
        if length not in self._lengths:
            ladders = []
            modulus = 1
            for key in self._keys:
                steps = candidates(self._root, key, length, length)
                sizes = [mantissa * power_of(self._root, power) for mantissa, power in steps]
                ladders.append(list(zip(steps, sizes)))
                for mantissa in key[1]:
                    modulus = lcm(modulus, _greatest_multiple(self._root, mantissa, sizes[-1]))
            self._lengths[length] = (ladders, modulus)
        return self._lengths[length]

    def _widened(self, number, low, high):
        """Return `(low, high, step, size)`: a range widened by a rule, and the step that it takes."""
        most = self._keys[number][2]
        ladder = self._steps_at(high - low)[0][number]
        place = 0
        # The last step of the ladder fits each range of this length.
        while -(-high // ladder[place][1]) - low // ladder[place][1] > most:
            place = place + 1
        step, size = ladder[place]
        return low // size * size, -(-high // size) * size, step, size

    def _divided(self, start, low, high, modulus):
        """Return `(start, low, high, modulus)` for each way to know more of the low end, as the length asks for it."""
        greater = self._steps_at(high - low)[1]
        return [(start + more, low + more, high + more, greater) for more in range(0, greater, modulus)]

    def low_of(self, one):
        """Return the low end of the range of a class with the place itself."""
        mantissa, _, place = one
        return mantissa * place * self._one

    def length_of(self, one):
        mantissa, many, _ = one
        return mantissa * many * self._one

    def span_of(self, low, one):
        """Return a range of a class, `(low, high, digits)`, by its low end."""
        return low, low + self.length_of(one), log_of(self._root, self._one)

    def low_before(self, low, worth):
        """Return the low end of a range that is followed by one with this low end, by the worth in `following`."""
        drop, power = worth
        return low * power_of(self._root, power + log_of(self._root, self._one)) // self._one + drop

    def within(self, low, high, digits):
        """Return a range that lacks so little of one that its first rule adds it: less than steps can tell."""
        return low * self._root + 1, high * self._root, digits + 1

    def all_classes(self):
        """Return all classes of ranges that the first rule leaves as they are."""
        _, mantissas, most = self._keys[0]
        found = []
        for mantissa in mantissas:
            for many in range(1, most + 1):
                modulus = self._steps_at(mantissa * many * self._one)[1]
                for place in range(modulus // (mantissa * self._one)):
                    one = (mantissa, many, place)
                    low = self.low_of(one)
                    if self._widened(0, low, low + self.length_of(one))[3] == mantissa * self._one:
                        found.append(one)
        return found

    def _round(self, one):
        """Return the parts of a class behind the rules but the first, as `_divided` does."""
        low = self.low_of(one)
        length = self.length_of(one)
        parts = [(low, low, low + length, self._steps_at(length)[1])]
        for number in range(1, len(self._keys)):
            divided = []
            for start, low, high, modulus in parts:
                low, high, _, _ = self._widened(number, low, high)
                divided.extend(self._divided(start, low, high, modulus))
            parts = divided
        return parts

    def following(self, one):
        """Return a dict of the classes that may follow one, by `(class, moved)`; it is empty if its ranges rest.

        Moved is whether the first rule still widens what the others leave. The worth is a tuple `(drop, power)`: a
        range of this class has the low end of the range of the next one, times the base to the power, plus the drop.
        """
        edges = {}
        for start, low, high, modulus in self._round(one):
            if high - low == self.length_of(one):
                return {}
            new_low, new_high, step, size = self._widened(0, low, high)
            mantissa, power = step
            power = power - log_of(self._root, self._one)
            moved = (new_low, new_high) != (low, high)
            for first, bottom, top, greater in self._divided(start, new_low, new_high, modulus):
                following = (mantissa, (top - bottom) // size, bottom // size % (greater // size))
                edges.setdefault((following, moved), (first - bottom, power))
        return edges
