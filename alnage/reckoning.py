"""What all runs reckon by: numbers with their weights, and a budget of calls.

A weighed number is a pair of a fraction and its weight.
"""
from alnage.errors import Halted
from alnage.fractions import ZERO, is_less, minus, over, plus, power, times

HEAVIEST = 60
MOST_CALLS = 300


class Budget:
    """The calls that are left to a run."""

    def __init__(self):
        self.left = MOST_CALLS

    def take_call(self):
        if self.left == 0:
            raise Halted("weary")
        self.left -= 1


def taken(stack, many):
    """The last values of a stack, in order, which leave it."""
    start = len(stack) - many
    values = stack[start:]
    del stack[start:]
    return values


def weighed(number):
    """A number as it comes from the text."""
    return (number, 1)


def bearable(weight):
    """The weight, if it is not too great."""
    if weight > HEAVIEST:
        raise Halted("heavy")
    return weight


def joint_weight(one, two):
    return bearable(one[1] + two[1])


def weighed_sum(one, two):
    weight = joint_weight(one, two)
    return (plus(one[0], two[0]), weight)


def weighed_difference(one, two):
    weight = joint_weight(one, two)
    return (minus(one[0], two[0]), weight)


def weighed_product(one, two):
    weight = joint_weight(one, two)
    return (times(one[0], two[0]), weight)


def weighed_quotient(one, two):
    weight = joint_weight(one, two)
    if two[0] == ZERO:
        raise Halted("zero")
    return (over(one[0], two[0]), weight)


def weighed_power(one, exponent):
    # Other than for a quotient, the division is asked before the weight.
    if one[0] == ZERO and exponent < 0:
        raise Halted("zero")
    weight = bearable(max(1, one[1] * abs(exponent)))
    return (power(one[0], exponent), weight)


def less(one, two):
    return is_less(one[0], two[0])


def at_most(one, two):
    return not is_less(two[0], one[0])


def equal(one, two):
    return one[0] == two[0]


OPERATIONS = {
    "add": weighed_sum, "sub": weighed_difference, "mul": weighed_product, "div": weighed_quotient,
    "lt": less, "le": at_most, "eq": equal,
}
