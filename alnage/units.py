"""Units: what they are worth, and what dimensions they have."""
from alnage.errors import Clashing, Mistaken, Unknown
from alnage.fractions import ONE, power, times

MOST_BASES = 6
GREATEST_PART = 10 ** 20
GREATEST_EXPONENT = 40


def joined(one, two, factor):
    """The sum of a dimension and a whole multiple of another one."""
    return summed([(one, 1), (two, factor)])


def summed(parts):
    """The sum of dicts to whole numbers, each told with its factor: without zeros, its keys ascending."""
    total = {}
    for part, factor in parts:
        for key, number in part.items():
            total[key] = total.get(key, 0) + factor * number
    return {key: total[key] for key in sorted(total) if total[key] != 0}


class Units:
    """The units and base units that are known so far, each with its worth and its dimension."""

    def __init__(self):
        self.known = {}
        self.base_names = []

    def add_base(self, name, at):
        self.ask_new(name, at)
        if len(self.base_names) == MOST_BASES:
            raise Mistaken(at, "bases")
        self.base_names.append(name)
        self.known[name] = (ONE, {name: 1})

    def add_unit(self, name, number, product, at):
        self.ask_new(name, at)
        if number[0] == 0:
            raise Mistaken(at, "zero")
        worth, dimension = self.product(product)
        worth = times(number, worth)
        ask_bounded(worth, dimension, at)
        self.known[name] = (worth, dimension)

    def ask_new(self, name, at):
        if name in self.known:
            raise Clashing(name, at)

    def bases(self):
        """The names of the base units, in the order of their lines."""
        return list(self.base_names)

    def product(self, product):
        """The pair of the worth and the dimension of a product."""
        worth = ONE
        dimension = {}
        for name, exponent, at in product:
            if name not in self.known:
                raise Unknown(name, at)
            own_worth, own_dimension = self.known[name]
            worth = times(worth, power(own_worth, exponent))
            dimension = joined(dimension, own_dimension, exponent)
            ask_bounded(worth, dimension, at)
        return (worth, dimension)


def ask_bounded(worth, dimension, at):
    """Refuse a worth or a dimension that is too great."""
    if max(worth) > GREATEST_PART or any([abs(exponent) > GREATEST_EXPONENT for exponent in dimension.values()]):
        raise Mistaken(at, "unit")
