"""Point 4.5: the papers of lines that no dimensions fit."""
import unittest

from alnage.errors import Unfit
from alnage.infer import check
from alnage.linear import shows_none
from programs import ProgramTest, rows_of

M = "base m; base s; "


class PaperTest(ProgramTest):
    def paper(self, text, name, base, rows, right):
        """The last line does not fit; for this base unit it has these rows and right sides."""
        found, weights = self.unfit(text, name)
        with self.subTest(text):
            self.assertEqual(found, base)
            self.assertEqual(rows_of(text, base), (rows, right))
            self.assertIs(shows_none(rows, right, list(weights)), True)

    def test_one_equation_without_unknowns(self):
        self.paper(M + "show 1 [m] + 1;", "show", "m", [[]], [-1])
        self.paper(M + "show 1 + 1 [m];", "show", "m", [[]], [1])
        self.paper(M + "show 1 [m^3] < 1 [m];", "show", "m", [[]], [-2])
        self.paper(M + "show 1 [s] in [s^-2];", "show", "s", [[]], [-3])

    def test_the_name_of_a_function(self):
        self.paper(M + "fun f(x) = x ^ 2 + 1 [m];", "f", "m", [[2]], [1])
        self.paper(M + "fun f(x) = x ^ 2 * 1 [m] + 1;", "f", "m", [[2]], [-1])
        self.paper(M + "fun long_name_of_it(x: [s]) = x + 1;", "long_name_of_it", "s", [[1], [1]], [1, 0])
        self.paper(M + "fun f(): [m] = 1 [m] * 1 [s];", "f", "s", [[]], [-1])

    def test_only_fractions_would_do(self):
        self.paper(M + "fun f(x, y) = x ^ 2 * y ^ 4 + 1 [m^3];", "f", "m", [[2, 4]], [3])
        self.paper(M + "fun f(x, y) = x * y == 1 [s] and x == y;", "f", "s", [[1, 1], [1, -1]], [1, 0])

    def test_fractions_would_not_do(self):
        self.paper(M + "fun f(x) = x == 1 [m] and x == 1;", "f", "m", [[1], [1]], [1, 0])

    def test_equations_that_are_not_needed(self):
        self.paper(M + "fun f(x, y: [m]) = (x + x) * (y + y) * (1 + 1 [s]) + x ^ 2;", "f", "s",
                   [[0, 1], [0, 0], [0, 0], [0, 0], [-1, 1]], [0, 0, 0, 1, 0])

    def test_equations_behind_the_one_that_cannot_be(self):
        weights = self.unfit(M + "show (1 [m] + 1) * (1 + 1) * (1 [m] + 1 [m]);")[1]
        self.assertEqual(len(weights), 3)

    def test_unknowns_of_calls(self):
        text = M + "fun to(x: [m]) = x; fun id(x) = x; "
        self.paper(text + "show to(id(1 [s])) + 1;", "show", "m", [[-1], [1], [0]], [0, 1, -1])

    def test_products_of_parameters_come_first(self):
        self.paper(M + "fun f(x: [m], y: [s]) = y + x;", "f", "m", [[1, 0], [0, 1], [-1, 1]], [1, 0, 0])

    def test_the_product_of_the_result_comes_last(self):
        self.paper(M + "fun f(x): [m] = x ^ 2 * (1 [s] + 1 [s]) / 1 [s];", "f", "m", [[0], [2]], [0, 1])

    def test_the_base_unit_of_the_paper(self):
        for base in "abcdef":
            text = "".join(f"base {name}; " for name in "abcdef") + f"show 1 [a b c d e f {base}^-1] + 1 [a b c d e f];"
            self.assertEqual(self.unfit(text, bases="abcdef")[0], base)

    def test_the_rows_of_one_base_unit_are_not_those_of_another(self):
        text = M + "fun f(x) = x ^ 2 + 1 [m^2 s];"
        base, weights = self.unfit(text, "f")
        self.assertEqual(base, "s")
        self.assertEqual(rows_of(text, "s"), ([[2]], [1]))
        self.assertFalse(shows_none(*rows_of(text, "m"), list(weights)))

    def test_iterate(self):
        self.paper(M + "fun cube(x) = x * x * x; show iterate cube 2 from 1 [m];", "show", "m", [[-1], [2]], [-1, 0])

    def test_branches(self):
        self.paper(M + "fun f(x) = if x < 1 [m] then x else x * x;", "f", "m", [[1], [-1]], [1, 0])

    def test_great_coefficients(self):
        weights = self.unfit(M + "fun f(x, y) = x ^ 9 ^ 9 ^ 9 ^ 9 ^ 9 * y ^ 9 ^ 9 ^ 9 ^ 9 + 1 [m];", "f")[1]
        self.assertEqual(len(weights), 1)
        self.assertGreater(weights[0][1], 1)

    def test_many_lines_that_do_not_fit(self):
        parts = ("x", "y", "x * y", "x ^ 2", "y ^ -3", "x * 1 [m]", "1 [m s]", "y / 2 [s]", "sq(x)", "root(x, y)", "2")
        refused = 0
        for one in parts:
            for two in parts:
                for three in parts:
                    line = f"fun f(x, y) = if {one} < {two} then {two} * x else {three};"
                    text = M + "fun sq(x) = x * x; fun root(x, y) = if x == y * y then y else y; " + line
                    try:
                        check(text)
                    except Unfit:
                        refused += 1
                        self.unfit(text, "f")
        self.assertGreater(refused, 200)


if __name__ == "__main__":
    unittest.main()
