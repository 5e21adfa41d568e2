"""What runs are to make, by recursion over the lines of a program and the fractions of Python's library.

It is told apart from the program: from the package it takes the parser alone.
"""
from fractions import Fraction

from alnage.parser import parse


class End(Exception):
    """The early end of a run."""


class Unlike(Exception):
    """Quantities of unlike dimensions that meet."""


class Number:
    def __init__(self, value, dimension, weight):
        self.value = value
        self.dimension = {base: dimension[base] for base in sorted(dimension) if dimension[base]}
        self.weight = weight
        if weight > 60:
            raise End("heavy")


def total(one, two, factor):
    return {base: one.get(base, 0) + factor * two.get(base, 0) for base in {**one, **two}}


def pair(value):
    return (value.numerator, value.denominator)


class Oracle:
    """The run of a text; `factors` are Fractions by which base units are smaller."""

    def __init__(self, text, factors=None):
        self.factors = factors or {}
        self.units = {}
        self.functions = {}
        self.trace = []
        self.calls = 300
        self.end = self.finish(parse(text))

    def finish(self, lines):
        try:
            for line in lines:
                self.take(line)
        except End as end:
            return ("halted", end.args[0])
        return ("done",)

    def take(self, line):
        if line[0] == "base":
            self.units[line[1]] = (Fraction(self.factors.get(line[1], 1)), {line[1]: 1})
        elif line[0] == "unit":
            worth, dimension = self.product(line[3])
            self.units[line[1]] = (worth * Fraction(*line[2]), dimension)
        elif line[0] == "fun":
            self.functions[line[1]] = ([name for name, _ in line[2]], line[4])
        else:
            self.show(self.value(line[1], {}), line[2])

    def product(self, product):
        worth, dimension = Fraction(1), {}
        for name, power, _ in product:
            worth *= self.units[name][0] ** power
            dimension = total(dimension, self.units[name][1], power)
        return worth, dimension

    def show(self, value, product):
        if isinstance(value, bool):
            self.trace.append(("truth", value))
        elif product is None:
            self.trace.append(("plain", pair(value.value), value.dimension))
        else:
            worth, dimension = self.product(product)
            if Number(0, dimension, 1).dimension != value.dimension:
                raise Unlike
            self.trace.append(("shown", pair(value.value / worth), value.dimension))

    def call(self, name, arguments):
        if self.calls == 0:
            raise End("weary")
        self.calls -= 1
        names, e = self.functions[name]
        return self.value(e, dict(zip(names, arguments)))

    def value(self, e, names):
        return getattr(self, "value_" + e[0])(e, names)

    def value_number(self, e, names):
        worth, dimension = self.product(e[2])
        return Number(worth * Fraction(*e[1]), dimension, 1)

    def value_bool(self, e, names):
        return e[1]

    def value_var(self, e, names):
        return names[e[1]]

    def value_call(self, e, names):
        return self.call(e[1], [self.value(argument, names) for argument in e[2]])

    def value_iterate(self, e, names):
        value = self.value(e[3], names)
        for _ in range(e[2]):
            value = self.call(e[1], [value])
        return value

    def value_power(self, e, names):
        one = self.value(e[1], names)
        if e[2] < 0 and one.value == 0:
            raise End("zero")
        dimension = {base: exponent * e[2] for base, exponent in one.dimension.items()}
        weight = max(1, one.weight * abs(e[2]))
        # An early end for what is too heavy, before it is reckoned.
        Number(0, {}, weight)
        return Number(one.value ** e[2], dimension, weight)

    def value_if(self, e, names):
        test = self.value(e[1], names)
        self.trace.append(("branch", e[4], test))
        return self.value(e[2] if test else e[3], names)

    def value_let(self, e, names):
        return self.value(e[3], {**names, e[1]: self.value(e[2], names)})

    def value_not(self, e, names):
        return not self.value(e[1], names)

    def value_and(self, e, names):
        return self.value(e[1], names) and self.value(e[2], names)

    def value_or(self, e, names):
        return self.value(e[1], names) or self.value(e[2], names)

    def sides(self, e, names, alike):
        one, two = self.value(e[1], names), self.value(e[2], names)
        if alike and one.dimension != two.dimension:
            raise Unlike
        return one, two

    def value_add(self, e, names):
        one, two = self.sides(e, names, True)
        return Number(one.value + two.value, one.dimension, one.weight + two.weight)

    def value_sub(self, e, names):
        one, two = self.sides(e, names, True)
        return Number(one.value - two.value, one.dimension, one.weight + two.weight)

    def value_mul(self, e, names):
        one, two = self.sides(e, names, False)
        return Number(one.value * two.value, total(one.dimension, two.dimension, 1), one.weight + two.weight)

    def value_div(self, e, names):
        one, two = self.sides(e, names, False)
        Number(0, {}, one.weight + two.weight)
        if two.value == 0:
            raise End("zero")
        return Number(one.value / two.value, total(one.dimension, two.dimension, -1), one.weight + two.weight)

    def value_lt(self, e, names):
        one, two = self.sides(e, names, True)
        return one.value < two.value

    def value_le(self, e, names):
        one, two = self.sides(e, names, True)
        return one.value <= two.value

    def value_eq(self, e, names):
        one, two = self.sides(e, names, True)
        return one.value == two.value


def plainly(trace):
    """A trace without dimensions."""
    return [entry[:2] if entry[0] in ("plain", "shown") else entry for entry in trace]
