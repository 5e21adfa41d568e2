"""Points 4.1 and 4.2: functions, and the equations of each kind of expression."""
import sys
import unittest

from alnage.infer import check, told
from programs import ProgramTest, equations_of, rows_of

M = "base m; base s; "
M1, S1, M2, V = {"m": 1}, {"s": 1}, {"m": 2}, {"m": 1, "s": -1}


class ExpressionTest(ProgramTest):
    """Point 4.2: for each row of the table, what fits and what does not, and the equations in their order."""

    def poses(self, text, count, *equations):
        """The last line has so many unknowns and these equations: left side minus right side."""
        with self.subTest(text):
            self.assertEqual(equations_of(text), (count, list(equations)))

    def test_numbers(self):
        self.shows(M + "unit v = 3 [m s^-1]; show 2; show 2 []; show 2 [m]; show 0 [m^2]; show 1.5 [v]; show 1 [v m];",
                   {}, {}, M1, M2, V, {"m": 2, "s": -1})
        self.shows(M + "show 1 [m^0]; show 1 [m m^-1 s];", {}, S1)
        self.poses(M + "show 2 [m];", 0)
        self.unfit(M + "show 2 in [m];")
        self.unfit(M + "show 2 [m] in [];")

    def test_zero_has_a_dimension_like_other_numbers(self):
        self.unfit(M + "show 1 [m] + 0;")
        self.unfit(M + "show 0 == 0 [s];")

    def test_truth_values(self):
        self.shows(M + "show true; show false; show 1 < 2; show true and false or not true;", None, None, None, None)
        self.poses(M + "show true and not false or true;", 0)

    def test_comparisons(self):
        for sign in ("<", "<=", "=="):
            self.shows(M + f"show 1 [m] {sign} 2 [m]; show 1 {sign} 2;", None, None)
            self.poses(M + f"show 1 [m] {sign} 2 [s];", 0, ({}, {"m": 1, "s": -1}))
            self.poses(f"fun f(x, y) = x * x {sign} y;", 2, ({0: 2, 1: -1}, {}))
            self.unfit(M + f"show 1 [m] {sign} 2 [s];")
            self.unfit(M + f"show 1 {sign} 2 [s];")
            self.unfit(M + f"show true or 1 {sign} 2 [s];")

    def test_truth_values_of_numbers_that_do_not_fit(self):
        self.shows(M + "show 1 [m] < 2 [m] and 1 [s] < 2 [s];", None)
        self.unfit(M + "show 1 [m] < 2 [m] and 1 [s] < 2 [m];")
        self.unfit(M + "show not 1 [s] < 2 [m];")
        self.unfit(M + "show (1 [s] < 2 [m]) or true;")

    def test_sums_and_differences(self):
        for sign in ("+", "-"):
            self.shows(M + f"show 1 [m] {sign} 2 [m]; show 1 [m s^-1] {sign} 2 [s^-1] * 1 [m];", M1, V)
            self.poses(M + f"show 1 [m] {sign} 2 [s];", 0, ({}, {"m": 1, "s": -1}))
            self.poses(f"fun f(x, y) = x {sign} y * y;", 2, ({0: 1, 1: -2}, {}))
            self.unfit(M + f"show 1 [m] {sign} 2 [s];")
            self.unfit(M + f"show 1 [m] {sign} 1;")
            self.unfit(M + f"show 1 [m^2] {sign} 1 [m];")
            self.unfit(M + f"show 1 [m] {sign} 1 [m] {sign} 1 [s];")

    def test_the_dimension_of_a_sum_is_that_of_its_first_part(self):
        # Both equations are told by the first part of all: the sum of the first two has its dimension.
        self.poses("base m; fun f(x, y, z) = x + y * 1 [m] + z;", 3, ({0: 1, 1: -1}, {"m": -1}), ({0: 1, 2: -1}, {}))
        self.poses("fun f(x, y, z) = x - (y - z);", 3, ({1: 1, 2: -1}, {}), ({0: 1, 1: -1}, {}))

    def test_products(self):
        self.shows(M + "show 2 [m] * 3 [s]; show 2 [m] * 3; show 2 * 3; show 2 [m] * 2 [m^-1];",
                   {"m": 1, "s": 1}, M1, {}, {})
        self.shows(M + "show 2 [m] * 3 [s] * 2 [m];", {"m": 2, "s": 1})
        self.poses(M + "fun f(x) = x * 3 [m] * x == 1 [s];", 1, ({0: 2}, {"m": 1, "s": -1}))
        self.unfit(M + "show 2 [m] * 3 [s] in [m];")
        self.unfit(M + "show 2 [m] * 3 [m] + 1 [m];")

    def test_quotients(self):
        self.shows(M + "show 2 [m] / 3 [s]; show 2 [m] / 3; show 3 / 2 [m]; show 2 [m] / 2 [m];", V, M1, {"m": -1}, {})
        self.shows(M + "show 2 [m] / 3 [s] / 2 [s] * 1 [m];", {"m": 2, "s": -2})
        self.poses(M + "fun f(x) = 3 [m] / x / x == 1 [s];", 1, ({0: -2}, {"m": 1, "s": -1}))
        self.unfit(M + "show 2 [m] / 3 [s] in [m s];")
        self.unfit(M + "show 2 [m] / 3 [m] + 1 [m];")

    def test_powers(self):
        self.shows(M + "show 2 [m] ^ 2; show 2 [m s^-1] ^ -3; show 2 [m] ^ 0; show 2 [m] ^ 1; show 2 ^ 9;",
                   M2, {"m": -3, "s": 3}, {}, M1, {})
        self.shows(M + "show 2 [m] ^ 2 ^ -3; show 1 [m] * 1 [s] ^ 2;", {"m": -6}, {"m": 1, "s": 2})
        self.poses(M + "fun f(x) = (x * 1 [m]) ^ -3 + 1;", 1, ({0: -3}, {"m": -3}))
        self.poses("fun f(x) = x ^ 0 + 1;", 1, ({}, {}))
        self.unfit(M + "show 1 [m] ^ 2 in [m];")
        self.unfit(M + "show 1 [m] ^ 0 in [m];")
        self.unfit(M + "fun f(x) = x ^ 2 + 1 [m];", "f")
        self.shows(M + "fun f(x) = x ^ 2 + 1 [m^2]; show f(1 [m]);", M2)

    def test_calls(self):
        text = M + "fun area(a, b) = a * b; fun to(x: [m]): [m] = x; fun same(x, y) = x == y; "
        self.shows(text + "show area(1 [m], 2 [s]); show to(1 [m]); show same(1 [s], 2 [s]); show area(1, 1);",
                   {"m": 1, "s": 1}, M1, None, {})
        self.unfit(text + "show to(1 [s]);")
        self.unfit(text + "show to(1);")
        self.unfit(text + "show same(1 [m], 2 [s]);")
        self.unfit(text + "show area(1 [m], 2 [m]) + 1 [m];")
        self.unfit(text + "fun f(x) = to(x) + area(x, x);", "f")

    def test_the_equations_of_calls(self):
        text = M + "fun g(x, y) = x / y; fun h(x: [m]) = x; fun t(x) = x < x; fun n() = 1 [s]; "
        self.poses(text + "show g(1 [m], 2 [s]);", 2, ({0: -1}, {"m": 1}), ({1: -1}, {"s": 1}))
        self.poses(text + "show h(1 [s]);", 0, ({}, {"m": -1, "s": 1}))
        self.poses(text + "show n() + 1;", 0, ({}, {"s": 1}))
        self.poses(text + "fun f(x) = if t(x) then g(x, x) else 1;", 4,
                   ({0: 1, 1: -1}, {}), ({0: 1, 2: -1}, {}), ({0: 1, 3: -1}, {}), ({2: 1, 3: -1}, {}))

    def test_the_unknowns_of_a_call_are_made_before_its_arguments_are_walked(self):
        text = "fun g(x, y) = x / y; fun h(x) = x; "
        self.poses(text + "fun f(x) = g(h(x), h(h(x)));", 6,
                   ({0: 1, 3: -1}, {}), ({3: 1, 1: -1}, {}),
                   ({0: 1, 5: -1}, {}), ({5: 1, 4: -1}, {}), ({4: 1, 2: -1}, {}))

    def test_functions_are_used_at_several_dimensions(self):
        text = M + "fun sq(x) = x * x; fun twice(x) = x + x; "
        self.shows(text + "show sq(1 [m]) / sq(1 [s]); show sq(sq(1 [m])); show twice(sq(2)) * twice(1 [s]);",
                   {"m": 2, "s": -2}, {"m": 4}, S1)
        self.unfit(text + "show sq(1 [m]) + sq(1 [s]);")
        self.shows(text + "fun hyp(a, b) = sq(a) + sq(b); show hyp(1 [m], 2 [m]); show hyp(1, 2);", M2, {})
        self.unfit(text + "fun hyp(a, b) = sq(a) + sq(b); show hyp(1 [m], 2 [s]);")

    def test_functions_of_functions_with_unknowns_in_their_forms(self):
        text = M + "fun f(x, y) = if x ^ 2 == y ^ 3 then x / y else x / y; "
        self.shows(text + "show f(1 [m^3], 2 [m^2]); show f(1 [s^-9], 1 [s^-6]); show f(2, 3);", M1, {"s": -3}, {})
        self.unfit(text + "show f(1 [m], 1 [m]);")
        self.unfit(text + "show f(1 [m^2], 1 [m^3]);")

    def test_iterate(self):
        text = M + "fun dbl(x) = x + x; fun far(x: [m]) = x * 2; fun sq(x) = x * x; fun flip(x: [m]) = 1 / x; "
        self.shows(text + "show iterate dbl 3 from 1 [m]; show iterate far 0 from 2 [m]; show iterate sq 4 from 2;",
                   M1, M1, {})
        self.unfit(text + "show iterate far 3 from 1 [s];")
        self.unfit(text + "show iterate far 0 from 1;")
        self.unfit(text + "show iterate sq 3 from 1 [m];")
        self.unfit(text + "show iterate sq 0 from 1 [m];")
        self.unfit(text + "show iterate flip 1 from 1 [m];")
        self.unfit(text + "show iterate dbl 3 from 1 [m] in [s];")

    def test_the_equations_of_iterate(self):
        text = M + "fun h(x) = x; fun sq(x) = x * x * 1 [m]; "
        self.poses(text + "fun f(x) = iterate sq 3 from h(x);", 3,
                   ({0: 1, 2: -1}, {}), ({2: 1, 1: -1}, {}), ({1: 1}, {"m": 1}))
        self.poses(text + "show (iterate sq 3 from 1 [s]) < 2;", 1,
                   ({0: -1}, {"s": 1}), ({0: 1}, {"m": 1}), ({}, {"s": 1}))

    def test_if(self):
        self.shows(M + "show if true then 1 [m] else 2 [m]; show if 1 < 2 then true else false;", M1, None)
        self.shows(M + "show if (if true then false else true) then 1 else 2;", {})
        self.poses(M + "fun f(x) = if x < 1 [s] then 2 * x else x * x;", 1,
                   ({0: 1}, {"s": -1}), ({0: -1}, {}))
        self.unfit(M + "show if true then 1 [m] else 2 [s];")
        self.unfit(M + "show if true then 1 [m] else 2;")
        self.unfit(M + "show if 1 [m] < 1 then 1 [m] else 2 [m];")
        self.unfit(M + "show (if true then 1 [m] else 2 [m]) + 1;")
        self.unfit(M + "show if true then 1 < 1 [m] else true;")

    def test_let(self):
        self.shows(M + "show let x = 1 [m] in x * x; show let x = 1 < 2 in x; show let x = true in 2 [s];",
                   M2, None, S1)
        self.shows(M + "show let x = 1 [m] in let y = x / 1 [s] in x * y;", {"m": 2, "s": -1})
        self.poses(M + "fun f(x) = let y = x + 1 [m] in y < x * x;", 1, ({0: 1}, {"m": -1}), ({0: -1}, {}))
        self.unfit(M + "show let x = 1 [m] in x + 1 [s];")
        self.unfit(M + "show let x = 1 [m] + 1 [s] in 2;")
        self.unfit(M + "show let x = 1 [m] in x in [s];")

    def test_a_let_does_not_make_unknowns(self):
        self.unfit(M + "fun f(x) = let y = x in if y == 1 [m] then y == 1 [s] else true;", "f")

    def test_lets_that_hide_names(self):
        self.shows(M + "show let x = 1 [m] in let x = x * x in x; show let x = 1 [m] in (let x = 1 [s] in x) * x;",
                   M2, {"m": 1, "s": 1})
        self.shows(M + "fun f(x) = (let x = 1 [m] in x) * x; show f(1 [s]);", {"m": 1, "s": 1})
        self.shows(M + "show let x = (let x = 1 [m] in x) * 1 [s] in x;", {"m": 1, "s": 1})

    def test_products_of_shows(self):
        self.shows(M + "unit km = 1000 [m]; show 1 [m] in [km]; show 1 in []; show 1 [m s^-1] in [km s^-1];", M1, {}, V)
        self.poses(M + "show 1 [m] + 2 [m] in [s];", 0, ({}, {}), ({}, {"m": 1, "s": -1}))
        self.unfit(M + "show 1 [m] in [s];")
        self.unfit(M + "show 1 [m] in [];")

    def test_products_of_functions(self):
        self.poses(M + "fun f(x: [m], y, z: [m^2 s]): [s] = x + y;", 3,
                   ({0: 1}, {"m": -1}), ({2: 1}, {"m": -2, "s": -1}), ({0: 1, 1: -1}, {}), ({0: 1}, {"s": -1}))
        self.unfit(M + "fun f(x: [m], y, z: [m^2 s]): [s] = x + y;", "f")
        self.shows(M + "fun f(x: [m], y): [m s] = x * y; show f(1 [m], 1 [s]);", {"m": 1, "s": 1})
        self.unfit(M + "fun f(x: [m], y): [m s] = x * y; show f(1 [m], 1 [m]);")
        self.unfit(M + "fun f(x: [m]): [s] = x;", "f")
        self.unfit(M + "fun f(x: [m]) = x + 1;", "f")
        self.unfit(M + "fun f(): [m] = 1;", "f")
        self.shows(M + "fun f(x: []) = x; show f(1);", {})
        self.unfit(M + "fun f(x: []) = x; show f(1 [m]);")

    def test_parameters_that_are_not_used(self):
        self.shows(M + "fun f(x, y) = y; show f(1 [m], 2 [s]); show f(1, 2 [m]);", S1, M1)

    def test_the_order_of_all_equations(self):
        rows, right = rows_of(M + "fun h(x) = x; fun f(a: [m], b): [s] = if a * b < 1 then h(a) + b else a;", "m")
        self.assertEqual(rows, [[1, 0, 0], [1, 1, 0], [1, 0, -1], [0, -1, 1], [-1, 0, 1], [0, 0, 1]])
        self.assertEqual(right, [1, 0, 0, 0, 0, 0])


class FunctionTest(ProgramTest):
    """Point 4.1."""

    def test_functions_of_earlier_lines(self):
        self.shows("fun f(x) = x * x; fun g(x) = f(f(x)); base m; show g(1 [m]);", {"m": 4})
        self.unknown("fun f(x) = @g(x); fun g(x) = x;", "g")
        self.unknown("fun f(x) = @f(x);", "f")
        self.unknown("show @f(1); fun f(x) = x;", "f")

    def test_base_units_of_later_lines(self):
        self.shows("fun f(x, y) = x / y; base m; show f(1 [m], 2); base s; show f(1 [m], 1 [s]);", M1, V)

    def test_schemes(self):
        self.assertEqual(self.scheme("fun f() = 1;", "f"), (0, [], ({}, {})))
        self.assertEqual(self.scheme("fun f() = true;", "f"), (0, [], None))
        self.assertEqual(self.scheme(M + "fun f(x: [m]): [m^2] = x * x;", "f"), (0, [({}, M1)], ({}, M2)))
        self.assertEqual(self.scheme(M + "fun f(x: [m]) = x < x;", "f"), (0, [({}, M1)], None))


class DeepTest(ProgramTest):
    """The first parts of chains nest an expression far deeper than its levels."""

    def deepest(self):
        text = "x"
        for level in range(24, 0, -1):
            left = 24 - level
            text += "^1" * left + "*y" * left + "+x" * left
            text = text if level == 1 else f"({text})"
        return text

    def test_deep_expressions(self):
        text = f"base m; fun f(x, y) = {self.deepest()}; show f(1 [m], 2);"
        depth = 0
        frame = sys._getframe()
        while frame is not None:
            depth, frame = depth + 1, frame.f_back
        limit = sys.getrecursionlimit()
        sys.setrecursionlimit(depth + 330)
        try:
            program = check(text)
        finally:
            sys.setrecursionlimit(limit)
        self.assertEqual(program.shows[0][2], M1)
        self.assertEqual(told(program.schemes["f"])[0], 1)

    def test_all_levels_of_other_expressions(self):
        for before, behind in (("f(", ")"), ("iterate f 1 from ", ""), ("if true then ", " else x"),
                               ("let x = x in ", ""), ("x + ", ""), ("let x = ", " in x")):
            times = 23 if before != "x + " else 1
            self.shows(f"base m; fun f(x) = x; fun g(x) = {before * times}x{behind * times}; show g(1 [m]);", M1)
        self.shows("show " + "not " * 23 + "true;", None)

    def test_many_unknowns(self):
        letters = "abcdefghijklmnopqrstuvwxyzABCDEFGHIJKLMNOPQRSTUVWXYZ"
        names = [one + two for one in letters for two in letters if one + two not in ("if", "in", "or")][:2000]
        text = f"base m; fun f({','.join(names)}) = {names[7]} * {names[1900]}; show f({','.join(['1'] * 2000)});"
        program = check(text)
        count, parameters, result = told(program.schemes["f"])
        self.assertEqual((count, len(parameters), len(result[0])), (2000, 2000, 2))
        self.assertEqual(program.shows[0][2], {})


if __name__ == "__main__":
    unittest.main()
