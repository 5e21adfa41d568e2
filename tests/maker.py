"""Programs of every form that are let by, made by chance but always the same ones."""
import random

from alnage.infer import check, told
from programs import total

SIDES = ("m", "s", "g")
HEAD = "base m; base s; unit km = 1000 [m]; base g; unit h = 3600 [s]; unit N = 0.5 [km g s^-2]; "
DERIVED = {
    "m": {"m": 1}, "s": {"s": 1}, "g": {"g": 1}, "km": {"m": 1}, "h": {"s": 1}, "N": {"m": 1, "s": -2, "g": 1},
}


def tidy(dimension):
    return {base: dimension[base] for base in sorted(dimension) if dimension[base]}


def times(one, two, factor=1):
    return tidy({base: one.get(base, 0) + factor * two.get(base, 0) for base in (*one, *two)})


class Maker:
    """Makes the text of a program; each expression is made so that it has a dimension that is told."""

    def __init__(self, seed):
        self.chance = random.Random(seed)
        self.text = HEAD
        self.known = {}
        self.schemes = {}

    def pick(self, *choices):
        return self.chance.choice(choices)

    def dimension(self):
        return tidy({base: self.pick(-2, -1, 0, 0, 0, 1, 1, 2) for base in SIDES})

    def product(self, dimension):
        """A product of this dimension, in base units and derived ones."""
        parts, rest = [], dimension
        while len(parts) < 3 and self.pick(True, False, False):
            name, power = self.pick("km", "h", "N", "m"), self.pick(-1, 1, 2, 0)
            parts.append((name, power))
            rest = times(rest, {base: exponent * power for base, exponent in DERIVED[name].items()}, -1)
        for base, exponent in rest.items():
            # A power of the text is a whole number up to 9.
            while abs(exponent) > 9:
                step = 9 if exponent > 0 else -9
                parts.append((base, step))
                exponent -= step
            parts.append((base, exponent))
        self.chance.shuffle(parts)
        return "[" + " ".join(name if power == 1 else f"{name}^{power}" for name, power in parts) + "]"

    def number(self, dimension):
        told = self.pick("0", "1", "1", "2", "3", "0.5", "1.20", "7", "1000", "0.003", "999999", "12.3456")
        if not dimension and self.pick(True, False):
            return told
        return told + self.pick("", " ") + self.product(dimension)

    def e(self, dimension, names, depth):
        """An expression in parentheses if it needs some; no dimension stands for a truth value."""
        if dimension is None:
            return self.truth(names, depth)
        same = [name for name, other in names.items() if other == dimension]
        if same and self.pick(True, True, False):
            return self.pick(*same)
        if depth == 0:
            return self.number(dimension)
        make = self.pick(
            self.sum, self.sum, self.mul, self.div, self.mul, self.div, self.power, self.call, self.call, self.iterate,
            self.choice, self.let, self.power_of_number,
        )
        return make(dimension, names, depth - 1)

    def sum(self, dimension, names, depth):
        parts = [self.e(dimension, names, depth) for _ in range(self.pick(2, 2, 3, 4))]
        return "(" + "".join(part + self.pick(" + ", " - ", "+", "-") for part in parts[:-1]) + parts[-1] + ")"

    def mul(self, dimension, names, depth):
        one = self.pick(self.dimension(), *[other for other in names.values() if other is not None])
        return f"({self.e(one, names, depth)} * {self.e(times(dimension, one, -1), names, depth)})"

    def div(self, dimension, names, depth):
        one = self.pick(self.dimension(), *[other for other in names.values() if other is not None])
        return f"({self.e(times(dimension, one), names, depth)} / {self.e(one, names, depth)})"

    def power(self, dimension, names, depth):
        powers = [power for power in (-3, -2, -1, 1, 2, 3, 4)
                  if all(exponent % power == 0 for exponent in dimension.values())]
        power = self.pick(*powers)
        root = {base: exponent // power for base, exponent in dimension.items()}
        return f"({self.e(root, names, depth)} ^ {power})"

    def power_of_number(self, dimension, names, depth):
        power = self.pick(0, 0, 1, 2, 9, -1, -2)
        return f"({self.e(dimension, names, depth)} * {self.e({}, names, depth)} ^ {power})"

    def called(self, name):
        """Dimensions of the parameters and the result of a function, as general as its scheme."""
        count, parameters, result = told(self.schemes[name])
        unknowns = [self.dimension() for _ in range(count)]
        return [total(form, unknowns) for form in parameters], None if result is None else total(result, unknowns)

    def call(self, dimension, names, depth):
        numbers = [name for name in self.schemes if told(self.schemes[name])[2] is not None]
        if not numbers:
            return self.number(dimension)
        name = self.pick(*numbers)
        parameters, result = self.called(name)
        told_call = name + "(" + ", ".join(self.e(parameter, names, depth) for parameter in parameters) + ")"
        rest = times(dimension, result, -1)
        return told_call if not rest else f"({told_call} * {self.e(rest, names, 0)})"

    def iterate(self, dimension, names, depth):
        for name in self.schemes:
            forms = told(self.schemes[name])
            if len(forms[1]) != 1 or forms[2] is None or self.pick(True, False):
                continue
            for _ in range(20):
                (parameter,), result = self.called(name)
                if parameter == result:
                    start = self.pick(self.e(parameter, names, depth), f"({self.e(parameter, names, depth)})")
                    rest = times(dimension, result, -1)
                    repeated = f"iterate {name} {self.pick(0, 1, 2, 3, 20)} from {start}"
                    return f"({repeated})" if not rest else f"({repeated} * {self.e(rest, names, 0)})"
        return self.sum(dimension, names, depth)

    def choice(self, dimension, names, depth):
        return (f"(if {self.truth(names, depth)} then {self.e(dimension, names, depth)} "
                f"else {self.e(dimension, names, depth)})")

    def let(self, dimension, names, depth):
        name, bound = self.pick("x", "y", "z", "q"), self.pick(None, self.dimension(), self.dimension())
        body = self.e(dimension, {**names, name: bound}, depth)
        return f"(let {name} = {self.e(bound, names, depth)} in {body})"

    def truth(self, names, depth):
        same = [name for name, other in names.items() if other is None]
        if same and self.pick(True, False):
            return self.pick(*same)
        if depth == 0:
            return self.pick("true", "false")
        kind = self.pick("and", "or", "not", "if", "let", "call", "compare", "compare", "compare", "compare")
        if kind in ("and", "or"):
            parts = [self.truth(names, depth - 1) for _ in range(self.pick(2, 3))]
            return "(" + f" {kind} ".join(parts) + ")"
        if kind == "not":
            return f"(not {self.truth(names, depth - 1)})"
        if kind == "if":
            return self.choice(None, names, depth - 1)
        if kind == "let":
            return self.let(None, names, depth - 1)
        if kind == "call":
            return self.truth_of_call(names, depth - 1)
        dimension = self.pick(self.dimension(), *[other for other in names.values() if other is not None])
        left, right = self.e(dimension, names, depth - 1), self.e(dimension, names, depth - 1)
        return f"({left} {self.pick('<', '<=', '==')} {right})"

    def truth_of_call(self, names, depth):
        truths = [name for name in self.schemes if told(self.schemes[name])[2] is None]
        if not truths:
            return self.pick("true", "false")
        name = self.pick(*truths)
        parameters = self.called(name)[0]
        return name + "(" + ", ".join(self.e(parameter, names, depth) for parameter in parameters) + ")"

    def add(self, line):
        self.text += line + self.pick(" ", "\n", " # a note\n")

    def function(self, number):
        name = f"f{number}"
        parameters = {other: self.dimension() for other in ("x", "y", "z")[:self.pick(0, 1, 1, 2, 3)]}
        result = self.pick(None, self.dimension(), self.dimension(), *parameters.values())
        head = ", ".join(
            other + self.pick("", "", f": {self.product(dimension)}") for other, dimension in parameters.items()
        )
        product = "" if result is None else self.pick("", "", f": {self.product(result)}")
        self.add(f"fun {name}({head}){product} = {self.e(result, dict(parameters), self.pick(1, 2, 3))};")
        self.schemes = check(self.text).schemes

    def show(self):
        dimension = self.pick(None, self.dimension(), self.dimension(), self.dimension())
        product = "" if dimension is None else self.pick("", f" in {self.product(dimension)}")
        self.add(f"show {self.e(dimension, {}, self.pick(1, 2, 3))}{product};")

    def program(self):
        """The text of a whole program."""
        for number in range(self.pick(0, 1, 2, 3, 4, 5)):
            self.function(number)
            if self.pick(True, False, False):
                self.show()
        for _ in range(self.pick(1, 2, 3)):
            self.show()
        return self.text
