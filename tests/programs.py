"""What the tests of whole programs have in common."""
import unittest

from alnage.errors import Clashing, Mistaken, Unfit, Unknown
from alnage.infer import Program, check, check_line, pose_function, pose_show, told
from alnage.linear import shows_none
from alnage.parser import parse


def equations_of(text):
    """The number of unknowns of the last line of a text and its equations, as forms."""
    program = Program()
    lines = parse(text)
    for line in lines[:-1]:
        check_line(program, line)
    pose = pose_function if lines[-1][0] == "fun" else pose_show
    equations = pose(program, lines[-1])[0]
    return equations.count, equations.made


def rows_of(text, base):
    """The rows and the right sides of the last line of a text for a base unit."""
    count, equations = equations_of(text)
    rows = [[unknowns.get(place, 0) for place in range(count)] for unknowns, dimension in equations]
    return rows, [-dimension.get(base, 0) for unknowns, dimension in equations]


def total(form, dimensions):
    """The dimension of a form, with these dimensions in the place of its unknowns."""
    found = dict(form[1])
    for number, factor in form[0].items():
        for base, exponent in dimensions[number].items():
            found[base] = found.get(base, 0) + factor * exponent
    return {base: found[base] for base in sorted(found) if found[base]}


class ProgramTest(unittest.TestCase):
    """Texts that are let by or refused; the sign @ in a text marks the index that its error tells."""

    def shows(self, text, *dimensions):
        """A text is let by, and its shows have these dimensions."""
        with self.subTest(text):
            found = [dimension for _, _, dimension in check(text).shows]
            self.assertEqual(found, list(dimensions))
            for dimension in found:
                self.assertEqual(list(dimension or ()), sorted(dimension or ()))

    def refused(self, marked, error):
        with self.subTest(marked):
            with self.assertRaises(type(error)) as caught:
                check(marked.replace("@", ""))
            self.assertEqual(vars(caught.exception), vars(error))

    def mistaken(self, marked, why):
        self.refused(marked, Mistaken(marked.index("@"), why))

    def unknown(self, marked, name):
        self.refused(marked, Unknown(name, marked.index("@")))

    def clashing(self, marked, name):
        self.refused(marked, Clashing(name, marked.index("@")))

    def unfit(self, text, name="show", bases=("m", "s")):
        """The last line of a text fits no dimensions, and its paper shows this; return the paper."""
        with self.subTest(text):
            with self.assertRaises(Unfit) as caught:
                check(text)
            self.assertEqual(caught.exception.name, name)
            paper = caught.exception.paper
            self.assertIs(type(paper), tuple)
            base, weights = paper
            self.assertIn(base, bases)
            self.assertIs(type(weights), tuple)
            for weight in weights:
                self.assertIs(type(weight), tuple)
                self.assertEqual([type(part) for part in weight], [int, int])
                self.assertGreater(weight[1], 0)
            rows, right = rows_of(text, base)
            self.assertIs(shows_none(rows, right, list(weights)), True)
            return paper

    def scheme(self, text, name):
        return told(check(text).schemes[name])
