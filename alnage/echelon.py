"""Equations with whole numbers that are solved one after the other."""
from alnage.fractions import ZERO, fraction, minus, over, plus, times


class Echelon:
    """Rows of whole numbers, each a dict from the unknowns, 0, 1 and so on, to coefficients that are not 0.

    A move changes the unknowns by whole numbers; it can be made any whole number of times. At first there is one for
    each unknown, which changes it alone, by 1. If a move is altered so that it also makes another one some times,
    then all moves together still reach the same, and each thing in just one way. Row by row, the moves that are free
    are altered until just one of them adds anything to the row: its pivot, which is not free any more. So each row
    tells how often its own pivot is made, once those of the rows before it are known.
    """

    def __init__(self, rows, count):
        # For each unknown, by how much the moves change it; for each move, the unknowns that it changes.
        self.changes = [{move: 1} for move in range(count)]
        self.changed = [{unknown: True} for unknown in range(count)]
        self.free = {move: True for move in range(count)}
        # For each row: what the pivots of earlier rows add to it, its own pivot or None, and what this one adds or 0.
        self.steps = []
        for row in rows:
            self.take_row(row)

    def take_row(self, row):
        effects = self.effects(row)
        bound = {move: effects[move] for move in effects if move not in self.free}
        pivot, lead = self.single_out({move: effects[move] for move in effects if move in self.free})
        if pivot is not None:
            del self.free[pivot]
        self.steps.append((bound, pivot, lead))

    def effects(self, row):
        """What each move adds to a row, for those that add anything."""
        total = {}
        for unknown, coefficient in row.items():
            for move, change in self.changes[unknown].items():
                total[move] = total.get(move, 0) + coefficient * change
        return {move: effect for move, effect in total.items() if effect != 0}

    def single_out(self, effects):
        """Alter moves until just one adds to a row; return it and what it adds, or None and 0 if none does."""
        if not effects:
            return None, 0
        pivot = self.least(effects)
        while len(effects) > 1:
            effects = self.reduced(effects, pivot)
            pivot = self.least(effects)
        return pivot, effects[pivot]

    def reduced(self, effects, pivot):
        """Let the other moves make this one so often that they add as little as they can; return what they add."""
        lead = effects[pivot]
        left = {pivot: lead}
        for move, effect in effects.items():
            if move != pivot:
                many = nearest(effect, lead)
                self.alter(move, pivot, -many)
                if effect != many * lead:
                    left[move] = effect - many * lead
        return left

    def least(self, effects):
        """The move that adds least; among several the one that changes the fewest unknowns, which costs least."""
        return min([(abs(effect), len(self.changed[move]), move) for move, effect in effects.items()])[2]

    def alter(self, move, other, many):
        """Let a move also make another one, so many times, which is not 0."""
        for unknown in list(self.changed[other]):
            changes = self.changes[unknown]
            change = changes.get(move, 0) + many * changes[other]
            if change == 0:
                del changes[move]
                del self.changed[move][unknown]
            else:
                changes[move] = change
                self.changed[move][unknown] = True

    def kernel(self):
        """The moves that are left free, each a dict from unknowns to what it changes them by."""
        return [
            {unknown: self.changes[unknown][move] for unknown in sorted(self.changed[move])} for move in self.free
        ]

    def solve(self, right):
        """A list of values of the unknowns by which each row gives its right side, or None if there is none."""
        made, failed = self.settle(right)
        if failed is not None:
            return None
        return [sum([change * made.get(move, 0) for move, change in changes.items()]) for changes in self.changes]

    def settle(self, right):
        """How often each pivot is made; and the first row that so cannot get its right side, with what it lacks."""
        made = {}
        for at, (bound, pivot, lead) in enumerate(self.steps):
            rest = right[at] - sum([effect * made[move] for move, effect in bound.items()])
            if not is_multiple(rest, lead):
                return made, (at, rest)
            if pivot is not None:
                made[pivot] = rest // lead
        return made, None

    def paper(self, right):
        """None if there is a solution, otherwise a list of fractions, one for each row, that shows there is none."""
        failed = self.settle(right)[1]
        if failed is None:
            return None
        at, rest = failed
        lead = self.steps[at][2]
        # The pivot adds a whole number to the row times this weight, and what the row lacks is none.
        return self.weights(at, fraction(1, lead if lead != 0 else 2 * rest))

    def weights(self, last, weight):
        """Weights for all rows, this one for the last that counts, by which no pivot before it adds anything."""
        found = [ZERO] * len(self.steps)
        found[last] = weight
        sums = {move: times(weight, (effect, 1)) for move, effect in self.steps[last][0].items()}
        for at in reversed(range(last)):
            bound, pivot, lead = self.steps[at]
            if sums.get(pivot, ZERO) != ZERO:
                found[at] = over(minus(ZERO, sums[pivot]), (lead, 1))
                for move, effect in bound.items():
                    sums[move] = plus(sums.get(move, ZERO), times(found[at], (effect, 1)))
        return found


def nearest(one, two):
    """The whole number nearest to a quotient."""
    return (2 * one + two) // (2 * two)


def is_multiple(number, factor):
    """Whether a number is a whole multiple of a factor, which may be 0."""
    return number == 0 if factor == 0 else number % factor == 0
