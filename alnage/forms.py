"""Forms: sums of unknown dimensions times whole numbers, and of a dimension.

A form is a pair of a dict from the unknowns, 0, 1 and so on, to whole numbers that are not 0, and a dimension. Where
the form of an expression is asked, None stands for a truth value.
"""
from alnage.units import joined, summed


def known(dimension):
    """The form of a dimension without unknowns."""
    return ({}, dimension)


def unknown(number):
    return ({number: 1}, {})


def added(one, two, factor):
    """The sum of a form and a whole multiple of another one."""
    return (joined(one[0], two[0], factor), joined(one[1], two[1], factor))


def multiple(form, factor):
    return added(({}, {}), form, factor)


def shifted(form, offset):
    """A form with unknowns that are numbered from an offset on."""
    return ({number + offset: factor for number, factor in form[0].items()}, form[1])


def replaced(form, forms):
    """A form with these forms in the place of its unknowns."""
    unknowns = [(forms[number][0], factor) for number, factor in form[0].items()]
    dimensions = [(forms[number][1], factor) for number, factor in form[0].items()]
    return (summed(unknowns), summed([(form[1], 1), *dimensions]))


def copied(form):
    return (dict(form[0]), dict(form[1]))


class Scheme:
    """What dimensions a function is for: forms, whose unknowns stand for any dimensions.

    The result is None if it is a truth value.
    """

    def __init__(self, count, parameters, result):
        self.count = count
        self.parameters = parameters
        self.result = result
