"""Compiling a checked program to code without units.

An image is a tuple of instructions, tuples that begin with the kind of the instruction; alnage/machine.py tells what
each of them does. The functions stand first, in the order of their lines, and the shows behind them.
"""
from alnage.errors import BadFactor
from alnage.fractions import ONE, is_pair, power, times

GREATEST_FACTOR = 1000


def compile_program(program, *, factors=()):
    """The image of a checked program, for base units that are smaller by these factors."""
    for base in program.units.bases():
        if base in factors and not is_factor(factors[base]):
            raise BadFactor(base)
    compiler = Compiler(program.units, factors)
    start = compiler.emit(None)
    for name, (parameters, e) in program.functions.items():
        compiler.add_function(name, parameters, e)
    compiler.land(start, ("jump",))
    for e, product, dimension in program.shows:
        compiler.add_show(e, product, dimension)
    return tuple(compiler.code)


def is_factor(value):
    return is_pair(value) and min(value) >= 1 and max(value) <= GREATEST_FACTOR


def scale(dimension, factors):
    """The product of the factors of the base units to the power of their exponents."""
    total = ONE
    for base, exponent in dimension.items():
        if base in factors:
            total = times(total, power(factors[base], exponent))
    return total


class Compiler:
    """The instructions that have been made so far, and where those of each function begin.

    The code of an expression leaves its value on the stack of the machine. A scope is a tuple of the names that are
    bound around an expression, each at the place where the machine keeps its value.
    """

    def __init__(self, units, factors):
        self.units = units
        self.factors = factors
        self.code = []
        self.starts = {}

    def emit(self, instruction):
        """Add an instruction, or None where `land` will put one; return its place."""
        self.code.append(instruction)
        return len(self.code) - 1

    def land(self, place, instruction):
        """Put an instruction at a place that was left open, which leads to what comes next."""
        self.code[place] = (*instruction, len(self.code))

    def scaled_worth(self, product):
        """What a product of the text is worth in the smaller base units."""
        worth, dimension = self.units.product(product)
        return times(worth, scale(dimension, self.factors))

    def add_function(self, name, parameters, e):
        self.starts[name] = len(self.code)
        self.walk(e, parameters)
        self.emit(("return",))

    def add_show(self, e, product, dimension):
        self.walk(e, ())
        if dimension is None:
            self.emit(("truth",))
        elif product is None:
            self.emit(("plain",))
        else:
            self.emit(("shown", self.scaled_worth(product)))

    def walk(self, e, scope):
        """Add the code of an expression."""
        # The first parts of chains are nested far deeper than their levels: too deep to be reached by recursion.
        chain = []
        while e[0] in CHAINS:
            chain.append(e)
            e = e[1]
        add_first = FIRSTS[e[0]]
        add_first(self, e, scope)
        for link in reversed(chain):
            add_link = CHAINS[link[0]]
            add_link(self, link, scope)


def add_number(compiler, e, scope):
    compiler.emit(("number", times(e[1], compiler.scaled_worth(e[2]))))


def add_bool(compiler, e, scope):
    compiler.emit(("bool", e[1]))


def add_var(compiler, e, scope):
    # The innermost of several names that are the same is meant.
    places = [place for place, name in enumerate(scope) if name == e[1]]
    compiler.emit(("load", max(places)))


def add_call(compiler, e, scope):
    for argument in e[2]:
        compiler.walk(argument, scope)
    compiler.emit(("call", compiler.starts[e[1]], len(e[2])))


def add_iterate(compiler, e, scope):
    compiler.walk(e[3], scope)
    for _ in range(e[2]):
        compiler.emit(("call", compiler.starts[e[1]], 1))


def add_not(compiler, e, scope):
    compiler.walk(e[1], scope)
    compiler.emit(("not",))


def add_if(compiler, e, scope):
    test, first, second, at = e[1:]
    compiler.walk(test, scope)
    other = compiler.emit(None)
    compiler.walk(first, scope)
    end = compiler.emit(None)
    compiler.land(other, ("branch", at))
    compiler.walk(second, scope)
    compiler.land(end, ("jump",))


def add_let(compiler, e, scope):
    compiler.walk(e[2], scope)
    compiler.emit(("keep",))
    compiler.walk(e[3], (*scope, e[1]))
    compiler.emit(("drop",))


def link_truth(compiler, e, scope):
    """And, or: a left side that decides is the value; otherwise the right side is."""
    end = compiler.emit(None)
    compiler.walk(e[2], scope)
    compiler.land(end, ("decide", e[0] == "or"))


def link_power(compiler, e, scope):
    compiler.emit(("power", e[2]))


def link_operation(compiler, e, scope):
    compiler.walk(e[2], scope)
    compiler.emit((e[0],))


# How the code of an expression is added that has no first part of its own level.
FIRSTS = {
    "number": add_number, "bool": add_bool, "var": add_var, "call": add_call, "iterate": add_iterate, "not": add_not,
    "if": add_if, "let": add_let,
}
# The same for one whose first part has its code already.
CHAINS = {
    "and": link_truth, "or": link_truth, "power": link_power, "add": link_operation, "sub": link_operation,
    "mul": link_operation, "div": link_operation, "lt": link_operation, "le": link_operation, "eq": link_operation,
}
