"""Systems of equations with whole numbers."""
from math import lcm

from alnage.echelon import Echelon


class System:
    """Rows of `count` integers each: the coefficients of as many unknowns."""

    def __init__(self, rows, count):
        self.count = count
        self.echelon = Echelon([sparse(row) for row in rows], count)

    def solve(self, right):
        """A list of integers by which each row gives its right side, or None if there is none."""
        return self.echelon.solve(right)

    def kernel(self):
        """Lists of integers for which all rows give 0; any other such list is their sum in just one way."""
        return [[numbers.get(place, 0) for place in range(self.count)] for numbers in self.echelon.kernel()]

    def paper(self, right):
        """None if there is a solution, otherwise a list of fractions, one for each row, that shows there is none."""
        return self.echelon.paper(right)


def sparse(row):
    """A dict from the places of a row to its numbers that are not 0."""
    return {place: number for place, number in enumerate(row) if number != 0}


def shows_none(rows, right, weights):
    """Whether the rows times the weights add up to whole numbers, and the right sides do not."""
    return rules_out([sparse(row) for row in rows], right, weights)


def rules_out(rows, right, weights):
    """The same for rows that are dicts, as `sparse` gives them."""
    if len(weights) != len(rows):
        return False
    bottom = 1
    for weight in weights:
        bottom = lcm(bottom, weight[1])
    # With this bottom in common, the tops alone are reckoned with: its multiples are the whole numbers.
    tops = [weight[0] * (bottom // weight[1]) for weight in weights]
    if sum([top * side for top, side in zip(tops, right)]) % bottom == 0:
        return False
    return all([total % bottom == 0 for total in column_sums(rows, tops)])


def column_sums(rows, factors):
    """The sum of the rows times the factors, but for places where all numbers are 0."""
    sums = {}
    for row, factor in zip(rows, factors):
        # Most papers leave out most rows.
        if factor != 0:
            for place, number in row.items():
                sums[place] = sums.get(place, 0) + factor * number
    return list(sums.values())
