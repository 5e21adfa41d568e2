"""What the unknowns of equations between forms can be, base unit by base unit."""
from alnage.echelon import Echelon


class Solutions:
    """Equations that are told by forms, in which `count` unknowns occur, and which are to be nothing."""

    def __init__(self, equations, count):
        self.count = count
        self.echelon = Echelon([equation[0] for equation in equations], count)
        self.sides = [equation[1] for equation in equations]

    def right(self, base):
        """The right sides of the equations for a base unit."""
        return [-side.get(base, 0) for side in self.sides]

    def dimensions(self, bases):
        """Dimensions of these base units, one for each unknown, that solve the equations; None if there are none."""
        exponents = {}
        for base in sorted(bases):
            values = self.echelon.solve(self.right(base))
            if values is None:
                return None
            exponents[base] = values
        return [
            {base: values[number] for base, values in exponents.items() if values[number] != 0}
            for number in range(self.count)
        ]

    def paper(self, bases):
        """A paper that shows that there are no such dimensions; None if there are some."""
        for base in bases:
            weights = self.echelon.paper(self.right(base))
            if weights is not None:
                return (base, tuple(weights))
        return None

    def freedom(self):
        """For each unknown, what free unknowns add to it, and how many these are.

        Added to one solution, they give each solution in just one way, whatever dimensions they stand for.
        """
        kernel = self.echelon.kernel()
        parts = [{} for number in range(self.count)]
        for place, changes in enumerate(kernel):
            for number, change in changes.items():
                parts[number][place] = change
        return parts, len(kernel)
