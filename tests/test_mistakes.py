"""Point 4.3: each mistake, and the order in which they are met. The sign @ marks the index that is told."""
import unittest

from alnage.errors import Malformed, Mistaken, Oversized
from alnage.infer import check
from programs import ProgramTest

M = "base m; base s; "
F = M + "fun one(x) = x; fun two(x, y) = x; fun none() = 1; fun is(x) = x < x; "
NINE = "".join(f"fun f{number}() = {number}; " for number in range(9))


class UnknownTest(ProgramTest):
    def test_names(self):
        self.unknown("show @x;", "x")
        self.unknown("fun f(x) = x + @y;", "y")
        self.unknown("base m; show 1 [m] * @m;", "m")
        self.unknown("show 1 + (2 * @long_name);", "long_name")
        self.unknown("fun f(x) = x; show @x;", "x")
        self.unknown("fun f(x) = x; fun g(y) = @x;", "x")
        self.unknown("fun f() = 1; show @f;", "f")

    def test_names_are_asked_wherever_they_stand(self):
        for text in ("not @x", "true and @x", "@x ^ 2", "if @x then 1 else 2", "if true then @x else 2",
                     "if true then 1 else @x", "let y = @x in 1", "1 < @x", "1 * @x", "one(@x)", "two(1, @x)",
                     "iterate one 2 from @x", "@x == 1", "1 - @x", "@x or true", "@x / 1"):
            self.unknown(F + f"show {text};", "x")

    def test_names_of_lets(self):
        self.unknown("show (let x = 1 in x) + @x;", "x")
        self.unknown("show let x = @x in x;", "x")
        self.unknown("show let x = (let y = 1 in y) in @y;", "y")
        self.unknown("show (let x = 1 in let y = 2 in x * y) + @x;", "x")
        check("show let x = 1 in (let y = x in y) + x;")

    def test_functions(self):
        self.unknown("show @f();", "f")
        self.unknown("show 1 + @f(1, 2);", "f")
        self.unknown("show @iterate f 2 from 1;", "f")
        self.unknown("fun f(x) = @x(1);", "x")
        self.unknown("base m; show @m(1);", "m")
        self.unknown("show let g = 1 in @g(1);", "g")

    def test_a_function_is_asked_before_its_arguments(self):
        self.unknown("show @f(x);", "f")
        self.unknown("show @iterate f 2 from x;", "f")


class CountTest(ProgramTest):
    def test_calls(self):
        for text in ("none(1)", "one()", "one(1, 2)", "two(1)", "two()", "two(1, 2, 3)"):
            self.mistaken(F + f"show @{text};", "count")
        check(F + "show none() * one(1) * two(1, 2);")

    def test_iterate(self):
        self.mistaken(F + "show @iterate none 2 from 1;", "count")
        self.mistaken(F + "show @iterate two 2 from 1;", "count")
        check(F + "show iterate one 2 from 1;")

    def test_it_is_asked_before_the_arguments(self):
        self.mistaken(F + "show @one(x, y);", "count")
        self.mistaken(F + "show @one(true, 1);", "count")
        self.mistaken(F + "show @iterate two 2 from x;", "count")

    def test_it_is_asked_before_the_result(self):
        self.mistaken("fun f(x, y) = true; show @iterate f 2 from 1;", "count")


class NumberTest(ProgramTest):
    def test_operators(self):
        for sign in ("+", "-", "*", "/", "<", "<=", "=="):
            self.mistaken(F + f"show true @{sign} 1;", "number")
            self.mistaken(F + f"show 1 @{sign} true;", "number")
            self.mistaken(F + f"show is(1) @{sign} 1;", "number")
            self.mistaken(F + f"show 1 @{sign} (1 < 2);", "number")

    def test_chains(self):
        self.mistaken("show 1 + 2 @+ true + 3;", "number")
        self.mistaken("show true @* 2 * 3;", "number")
        self.mistaken("show (1 < 2) @< 3;", "number")

    def test_powers(self):
        self.mistaken("show true@^2;", "number")
        self.mistaken("show true@^2^3;", "number")
        self.mistaken("show (1 < 2)@^0;", "number")

    def test_calls(self):
        self.mistaken(F + "show @one(true);", "number")
        self.mistaken(F + "show @two(true, 1);", "number")
        self.mistaken(F + "show @two(1, true);", "number")
        self.mistaken(F + "show one(@one(1 < 2));", "number")
        self.mistaken(F + "show @one(is(1));", "number")

    def test_iterate(self):
        self.mistaken(F + "show @iterate one 2 from true;", "number")
        self.mistaken(F + "show @iterate is 2 from 1;", "number")
        self.mistaken(F + "show @iterate is 0 from 1;", "number")
        self.mistaken(F + "show @iterate is 2 from x;", "number")

    def test_lets(self):
        self.mistaken("show let x = true in x @+ 1;", "number")
        self.mistaken("show (let x = 1 in true) @+ 1;", "number")
        self.mistaken("show let x = 1 in let x = true in x@^2;", "number")

    def test_branches(self):
        self.mistaken("show (if true then true else false) @+ 1;", "number")

    def test_products(self):
        self.mistaken(M + "@show true in [m];", "number")
        self.mistaken(M + "@show 1 < 2 in [];", "number")
        self.mistaken(M + "@fun f(x): [m] = x < x;", "number")
        self.mistaken(M + "@fun f(): [] = true;", "number")

    def test_products_of_truth_values_are_not_looked_at(self):
        self.mistaken("@show true in [x];", "number")
        self.mistaken("@fun f(): [x] = true;", "number")

    def test_the_first_part_is_asked_before_the_second_is_walked(self):
        for sign in ("+", "-", "*", "/", "<", "<=", "=="):
            self.mistaken(F + f"show true @{sign} x;", "number")
            self.unknown(F + f"show @x {sign} true;", "x")
            self.unknown(F + f"show 1 {sign} (true and @x);", "x")
        self.mistaken(F + "show @two(true, x);", "number")
        self.unknown(F + "show two(@x, true);", "x")
        self.unknown(F + "show two(1, @x);", "x")

    def test_parts_are_asked_behind_their_walk(self):
        self.unknown(F + "show one(true or @x);", "x")
        self.unknown(F + "show (true or @x)^2;", "x")
        self.unknown(F + "show iterate one 2 from (true or @x);", "x")
        self.mistaken(F + "show @one(true) + true;", "number")
        self.mistaken(F + "show one(true @+ 1) + true;", "number")


class TruthTest(ProgramTest):
    def test_operators(self):
        for sign in ("and", "or"):
            self.mistaken(f"show 1 @{sign} true;", "truth")
            self.mistaken(f"show true @{sign} 1;", "truth")
            self.mistaken(f"show true {sign} false @{sign} 1;", "truth")
            self.mistaken(f"fun f(x) = x @{sign} true;", "truth")
            self.mistaken(f"fun one(x) = x; show one(1) @{sign} true;", "truth")

    def test_not(self):
        self.mistaken("show @not 1;", "truth")
        self.mistaken("show not @not 1;", "truth")
        self.mistaken("show true or @not 1 * 2;", "truth")

    def test_if(self):
        self.mistaken("show @if 1 then 2 else 3;", "truth")
        self.mistaken("show if true then (@if 1 then 2 else 3) else 1;", "truth")

    def test_parameters_are_numbers(self):
        self.mistaken("fun f(x) = @if x then 1 else 2;", "truth")
        self.mistaken("fun f(x) = @not x;", "truth")

    def test_the_order(self):
        for sign in ("and", "or"):
            self.mistaken(f"show 1 @{sign} x;", "truth")
            self.unknown(f"show @x {sign} 1;", "x")
            self.unknown(f"show true {sign} not @x;", "x")
        self.unknown("show not (1 + @x);", "x")
        self.unknown("show if 1 + @x then 1 else 2;", "x")
        self.mistaken("show @if 1 then x else true;", "truth")


class BranchesTest(ProgramTest):
    def test_just_one_number(self):
        self.mistaken("show @if true then 1 else false;", "branches")
        self.mistaken("show @if true then false else 1;", "branches")
        self.mistaken("show 1 + (@if true then 1 < 2 else 1);", "branches")
        self.mistaken("fun f(x) = @if true then x else x < x;", "branches")

    def test_both_or_none(self):
        check("show if true then 1 else 2; show if true then true else false;")

    def test_the_order(self):
        self.unknown("show if true then 1 else (true or @x);", "x")
        self.mistaken("show if true then (1 @+ true) else false;", "number")
        self.mistaken("show (@if true then 1 else true) + true;", "branches")


class ClashingTest(ProgramTest):
    def test_functions(self):
        self.clashing("fun f() = 1; @fun f() = 1;", "f")
        self.clashing("fun f() = 1; fun g() = 1; @fun f(x) = 1;", "f")
        check("fun f() = 1; fun F() = 2;")

    def test_parameters(self):
        self.clashing("@fun f(x, x) = 1;", "x")
        self.clashing("base m; @fun f(a, b, c, b) = 1;", "b")
        self.clashing("base m; @fun f(a: [m], a: [m]) = 1;", "a")
        check("fun f(f, x) = f * x; fun g(f, x) = f;")

    def test_a_line_that_was_refused_is_the_end(self):
        self.mistaken("fun f() = @not 1; fun f() = 1;", "truth")


class FunctionsTest(ProgramTest):
    def test_nine_functions(self):
        self.assertEqual(len(check(NINE).schemes), 9)
        self.shows(NINE + "show f8() + f0();", {})

    def test_ten_functions(self):
        self.mistaken(NINE + "@fun g() = 1;", "functions")
        self.mistaken(NINE + "show 1; @fun g() = 1; fun h() = 1;", "functions")


class OrderTest(ProgramTest):
    """In a line: the name, the number of functions, the parameters, the expression, the product of the result."""

    def test_the_name_first(self):
        self.clashing(NINE + "@fun f3() = 1;", "f3")
        self.clashing("fun f() = 1; @fun f(x, x) = 1;", "f")
        self.clashing("fun f() = 1; @fun f(x: [y]): [z] = w;", "f")

    def test_then_the_number(self):
        self.mistaken(NINE + "@fun g(x, x) = 1;", "functions")
        self.mistaken(NINE + "@fun g(x: [y]) = z;", "functions")

    def test_then_the_parameters(self):
        self.clashing("@fun f(x, x): [z] = w;", "x")
        self.unknown("fun f(x: [@y]): [z] = w;", "y")
        self.unknown("fun f(x, z: [@y]) = true + 1;", "y")

    def test_each_name_then_its_product(self):
        self.unknown("fun f(x: [@y], x) = 1;", "y")
        self.clashing("base m; @fun f(x: [m], x: [y]) = 1;", "x")
        self.clashing("@fun f(x, x: [y]) = 1;", "x")
        self.unknown("fun f(x, y: [@y], x: [z]) = 1;", "y")
        self.mistaken("base m; unit v = 1 [m^9]; fun f(x: [@v^9], x) = 1;", "unit")

    def test_then_the_expression(self):
        self.unknown("fun f(): [y] = @x;", "x")
        self.unknown("show @x in [y];", "x")
        self.unknown("show 1 [@x] in [y];", "x")

    def test_then_the_product_of_the_result(self):
        self.unknown("fun f(): [@y] = 1;", "y")
        self.unknown("show 1 in [@y];", "y")
        self.mistaken("base m; unit v = 1 [m^9]; show 1 in [@v^9];", "unit")
        self.mistaken("base m; unit v = 1 [m^9]; fun f(): [m @v^5 v^-5] = 1;", "unit")

    def test_then_whether_it_fits(self):
        self.unknown(M + "show (1 [m] + 1 [s]) * @x;", "x")
        self.unknown(M + "show 1 [m] + 1 [s] in [@x];", "x")
        self.mistaken(M + "show 1 [m] + 1 [s] @+ true;", "number")
        self.unknown(M + "fun f(x: [m]): [@y] = x + 1;", "y")

    def test_products_of_numbers(self):
        self.unknown("show 1 [@y] + x;", "y")
        self.unknown("show @x + 1 [y];", "x")
        self.mistaken("base m; unit v = 1 [m^9]; show 1 [@v^-9] + true;", "unit")

    def test_lines_in_their_order(self):
        self.unknown("show @x; base m; base m;", "x")
        self.clashing("base m; @base m; show x;", "m")
        self.unfit(M + "show 1 [m] + 1 [s];")
        with self.assertRaises(Mistaken):
            check(M + "show not 1; show 1 [m] + 1 [s];")

    def test_the_whole_text_is_read_first(self):
        self.refused("show x; show +;", Malformed(13))
        self.refused("show x; $", Malformed(8))
        self.refused("base m; base m; show " + "(" * 24 + "1", Oversized("depth"))
        self.refused("show x;" + " " * 12000, Oversized("text"))


if __name__ == "__main__":
    unittest.main()
