"""Points 6.1 and 6.2: the compiler and the machine."""
import copy
import fractions as library
import inspect
import unittest

from alnage import compiler, machine
from alnage.compiler import compile_program, scale
from alnage.errors import BadFactor
from alnage.infer import check
from alnage.machine import run_image
from alnage.meaning import run
from oracle import Oracle, plainly
from runs import CALLS, DONE, HEAVY, SPEND_300, WEARY, WEIGHTS, ZERO

UNITS = "base m; base s; base g; unit km = 1000 [m]; unit h = 3600 [s]; unit N = 0.5 [km g s^-2]; "


def machine_run(text, factors=None):
    program = check(text)
    return run_image(compile_program(program) if factors is None else compile_program(program, factors=factors))


class ScaledTest(unittest.TestCase):
    def scaled(self, text, factors, trace, end=DONE):
        """With these factors the machine makes this trace, and nothing but plain numbers differs from the meaning."""
        with self.subTest(text=text, factors=factors):
            program = check(text)
            found = run_image(compile_program(program, factors=factors))
            self.assertIs(type(found), tuple)
            self.assertIs(type(found[0]), list)
            self.assertEqual(found, (trace, end))
            meant, meant_end = run(program)
            self.assertEqual(end, meant_end)
            self.assertEqual(len(trace), len(meant))
            for entry, other in zip(trace, meant):
                if other[0] == "plain":
                    number = library.Fraction(*other[1]) * library.Fraction(*scale(other[2], factors))
                    self.assertEqual(entry, ("plain", (number.numerator, number.denominator)))
                else:
                    self.assertEqual(entry, other[:2] if other[0] == "shown" else other)
            oracle = Oracle(text, {base: library.Fraction(*factor) for base, factor in factors.items()})
            self.assertEqual((plainly(oracle.trace), oracle.end), (trace, end))


class CompilerTest(ScaledTest):
    """Point 6.1."""

    def test_they_are_defined_here(self):
        self.assertEqual(compile_program.__module__, "alnage.compiler")
        self.assertEqual(scale.__module__, "alnage.compiler")
        self.assertEqual(run_image.__module__, "alnage.machine")
        self.assertIs(compiler.compile_program, compile_program)
        self.assertIs(machine.run_image, run_image)

    def test_the_arguments(self):
        factors = inspect.signature(compile_program).parameters["factors"]
        self.assertEqual((factors.kind, factors.default), (inspect.Parameter.KEYWORD_ONLY, ()))
        program = check(UNITS + "show 1 [m];")
        self.assertEqual(compile_program(program), compile_program(program, factors=()))
        self.assertEqual(compile_program(program), compile_program(program, factors={}))

    def test_the_example_of_the_document(self):
        text = ("base m; base s; unit km = 1000 [m]; fun v(d, t) = d / t; show v(3 [km], 5 [s]); "
                "show v(1 [km], 2 [s]) in [km s^-1];")
        self.scaled(text, {"s": (60, 1)}, [("plain", (10, 1)), ("shown", (1, 2))])
        self.scaled(text, {}, [("plain", (600, 1)), ("shown", (1, 2))])

    def test_numbers_are_scaled(self):
        for e, number in (
                ("1 [m]", (3, 4)), ("1 [m^2]", (9, 16)), ("1 [m^-1]", (4, 3)), ("1 [km]", (750, 1)),
                ("1 [s]", (60, 1)), ("1 [h^-1]", (1, 216000)), ("1 [m s]", (45, 1)), ("1 [g]", (1, 1)),
                ("2 [N]", (1000 * 3, 4 * 3600)), ("1", (1, 1)), ("0 [m]", (0, 1)), ("1 [m^0]", (1, 1)),
                ("5 [km m^-1]", (5000, 1)), ("2.5 [m] * 2 [m]", (45, 16)), ("1 [m] ^ -2", (16, 9))):
            number = library.Fraction(*number)
            self.scaled(f"{UNITS}show {e};", {"m": (3, 4), "s": (60, 1)},
                        [("plain", (number.numerator, number.denominator))])

    def test_factors_for_some_all_and_none_of_the_base_units(self):
        text = UNITS + "show 1 [m^2 s^-1 g];"
        for factors, number in (
                ({}, (1, 1)), ({"m": (2, 1)}, (4, 1)), ({"s": (2, 1)}, (1, 2)), ({"g": (1, 3)}, (1, 3)),
                ({"m": (5, 1), "s": (2, 1)}, (25, 2)), ({"g": (1, 3), "m": (3, 1), "s": (7, 1)}, (3, 7)),
                ({"m": (1, 1), "s": (1, 1), "g": (1, 1)}, (1, 1)), ({"m": (1, 1000)}, (1, 1000000)),
                ({"m": (1000, 1)}, (1000000, 1))):
            self.scaled(text, factors, [("plain", number)])

    def test_factors_that_are_not_in_lowest_terms(self):
        text = UNITS + "show 1 [m]; show 1 [m^-3 s]; show 1 [km] in [m];"
        for factor in ((3, 4), (6, 8), (750, 1000)):
            self.scaled(text, {"m": factor, "s": (1000, 1000)},
                        [("plain", (3, 4)), ("plain", (64, 27)), ("shown", (1000, 1))])
        program = check(text)
        self.assertEqual(compile_program(program, factors={"m": (6, 8)}),
                         compile_program(program, factors={"m": (3, 4), "g": (9, 9)}))

    def test_names_that_are_no_base_units_do_not_matter(self):
        program = check(UNITS + "show 1 [km]; show 1 [N] in [N];")
        for other in ({"km": (2, 1)}, {"N": (0, 0)}, {"other": None}, {"other": (2, 1), "M": (1, 1001), "": True}):
            with self.subTest(other):
                self.assertEqual(compile_program(program, factors=other), compile_program(program))
                self.assertEqual(compile_program(program, factors={**other, "m": (2, 1)}),
                                 compile_program(program, factors={"m": (2, 1)}))

    def test_nothing_else_of_the_units_is_in_the_code(self):
        for one, two in (
                ("base m; base s; show 5 [m];", "base s; base m; show 5 [s];"),
                ("base m; unit k = 3 [m]; show 1 [k];", "base m; unit k = 2 [m]; show 1.5[k];"),
                ("base m; show 5 [m];", "base m; show 5 [m^2];"),
                ("base m; fun f(x: [m]): [m] = x; show f(2 [m]);", "base m; fun f(x) = x; show f(2);"),
                ("base m; show 5 [m] in [m];", "base m; show 5 in [];"),
                ("base m; show if 1 [m] < 2 [m] then 5 [m] else 2 [m];",
                 "base m; show if 1 [ ] < 2 [ ] then 5 [ ] else 2 [ ];")):
            with self.subTest(one):
                self.assertEqual(compile_program(check(one)), compile_program(check(two)))
        image = repr(compile_program(check("base meter; unit inch = 0.0254 [meter]; fun f(x: [inch]) = x; "
                                           "show f(3 [inch]) in [inch]; show f(1 [meter]);")))
        self.assertNotIn("meter", image)
        self.assertNotIn("inch", image)

    def test_the_program_and_the_factors_are_not_changed(self):
        program = check(UNITS + "fun f(x) = x * 2 [m]; show f(1 [km]) in [m^2];")
        factors = {"m": (6, 8), "s": (2, 2)}
        before = copy.deepcopy((vars(program.units), program.functions, program.shows))
        image = compile_program(program, factors=factors)
        self.assertEqual((vars(program.units), program.functions, program.shows), before)
        self.assertEqual(factors, {"m": (6, 8), "s": (2, 2)})
        again = copy.deepcopy(image)
        run_image(image)
        self.assertEqual(image, again)


class BadFactorTest(unittest.TestCase):
    """The edges of what a factor is."""

    def bad(self, factors, name, text=UNITS):
        with self.subTest(factors=factors):
            with self.assertRaises(BadFactor) as caught:
                compile_program(check(text), factors=factors)
            self.assertEqual(vars(caught.exception), {"name": name})

    def test_factors(self):
        for factor in ((1, 1), (1, 1000), (1000, 1), (1000, 1000), (999, 1), (2, 4)):
            for name in ("m", "s", "g"):
                compile_program(check(UNITS), factors={name: factor})

    def test_no_factors(self):
        class Pair(tuple):
            pass

        for factor in (
                (0, 1), (1, 0), (0, 0), (1001, 1), (1, 1001), (-1, 1), (1, -1), (-1, -1), (), (1,), (1, 1, 1), [1, 1],
                None, 1, 0, True, "11", "1", (True, 1), (1, True), (False, 1), (1.0, 1), (1, 2.0), ("1", 1), (1, None),
                ((1, 1), (1, 1)), {1: 1}, {}, b"12", 1.5, (10 ** 30, 1), (1, 10 ** 30), library.Fraction(1, 2), Pair):
            for name in ("m", "s", "g"):
                self.bad({name: factor}, name)

    def test_the_first_one_in_the_order_of_the_program(self):
        self.bad({"g": None, "s": (0, 1), "m": (1, 0)}, "m")
        self.bad({"g": None, "s": (0, 1), "m": (1, 1)}, "s")
        self.bad({"g": None, "s": (0, 1)}, "s")
        self.bad({"g": None, "km": None}, "g")
        self.bad({"a": None, "b": None}, "b", "base b; base a;")
        self.bad({"b": None, "a": None}, "b", "base b; base a;")

    def test_base_units_that_are_not_used(self):
        self.bad({"g": (0, 1)}, "g", UNITS + "show 1;")
        self.bad({"g": (0, 1)}, "g", "show 1; base g;")


class ScaleTest(unittest.TestCase):
    def test_dimensions(self):
        factors = {"m": (3, 4), "s": (10, 1)}
        for dimension, number in (
                ({}, (1, 1)), ({"m": 1}, (3, 4)), ({"m": 2}, (9, 16)), ({"m": -1}, (4, 3)), ({"m": -3}, (64, 27)),
                ({"s": -2}, (1, 100)), ({"m": 1, "s": 1}, (15, 2)), ({"m": 1, "s": -1}, (3, 40)), ({"g": 5}, (1, 1)),
                ({"g": -5, "m": 1}, (3, 4)), ({"m": -1, "s": -1}, (2, 15)), ({"s": 40}, (10 ** 40, 1))):
            with self.subTest(dimension):
                self.assertEqual(scale(dimension, factors), number)

    def test_factors(self):
        self.assertEqual(scale({"m": 3}, {}), (1, 1))
        self.assertEqual(scale({}, {}), (1, 1))
        self.assertEqual(scale({"m": 3}, {"m": (1, 1)}), (1, 1))
        self.assertEqual(scale({"m": 2}, {"m": (6, 8)}), (9, 16))
        self.assertEqual(scale({"m": -2}, {"m": (6, 8)}), (16, 9))
        self.assertEqual(scale({"a": 1, "b": 1}, {"a": (2, 3), "b": (3, 2)}), (1, 1))
        self.assertEqual(scale({"a": 1, "b": -1}, {"a": (1000, 1), "b": (1, 1000)}), (1000000, 1))

    def test_nothing_is_changed(self):
        dimension, factors = {"m": -2, "s": 1}, {"m": (6, 8)}
        scale(dimension, factors)
        self.assertEqual((dimension, factors), ({"m": -2, "s": 1}, {"m": (6, 8)}))


class MachineTest(ScaledTest):
    """Point 6.2; that the machine ends as the meaning does is asked in all tests of the meaning, too."""

    def test_without_units(self):
        text = "fun f(x) = if x < 3 then x else x / 2; show f(1); show f(7); show f(3) == 1.5;"
        at = text.index("if")
        self.scaled(text, {}, [("branch", at, True), ("plain", (1, 1)), ("branch", at, False), ("plain", (7, 2)),
                               ("branch", at, False), ("truth", True)])
        self.assertEqual(machine_run(""), ([], DONE))

    def test_shown_numbers_do_not_change(self):
        text = UNITS + "show 10 [m s^-1] in [km h^-1]; show 3 [N] in [N]; show 1 [km^-2] in [m^-2]; show 4 in [];"
        for factors in ({}, {"m": (3, 7)}, {"s": (1000, 1), "g": (1, 999)}, {"m": (2, 4), "s": (9, 1), "g": (7, 3)}):
            self.scaled(text, factors, [("shown", (36, 1)), ("shown", (3, 1)), ("shown", (1, 1000000)),
                                        ("shown", (4, 1))])

    def test_truths_and_branches_do_not_change(self):
        text = (UNITS + "fun less(x, y) = if x < y then x else y; show less(1 [km], 999 [m]) == 999 [m]; "
                "show less(2 [m^-1], 3 [m^-1]) <= 2 [m^-1]; show 1 [h] == 3600 [s]; show 1 [m s] < 1 [m s];")
        at = text.index("if")
        for factors in ({}, {"m": (1, 1000)}, {"m": (1000, 1), "s": (1, 7)}):
            self.scaled(text, factors, [("branch", at, False), ("truth", True), ("branch", at, True), ("truth", True),
                                        ("truth", True), ("truth", False)])

    def test_numbers_without_dimensions_do_not_change(self):
        text = UNITS + "show 5; show 3 [m] / 2 [m]; show 3 [km] / 2 [m]; show (2 [N] / 1 [g m s^-2]) ^ 2;"
        for factors in ({}, {"m": (2, 3)}, {"m": (1, 9), "s": (5, 1), "g": (11, 13)}):
            self.scaled(text, factors, [("plain", (5, 1)), ("plain", (3, 2)), ("plain", (1500, 1)),
                                        ("plain", (1000000, 1))])

    def test_functions_of_many_dimensions(self):
        text = UNITS + "fun sq(x) = x * x; show sq(2 [m]); show sq(2 [s^-1]); show sq(2); show sq(sq(1 [m]));"
        self.scaled(text, {"m": (10, 1), "s": (2, 1)},
                    [("plain", (400, 1)), ("plain", (1, 1)), ("plain", (4, 1)), ("plain", (10000, 1))])

    def test_iterate(self):
        text = UNITS + "fun more(x) = x + 1 [km]; show iterate more 3 from 0 [m]; show iterate more 0 from 1 [m];"
        self.scaled(text, {"m": (2, 1)}, [("plain", (6000, 1)), ("plain", (2, 1))])

    def test_lets_and_parameters(self):
        text = UNITS + ("fun f(x, y) = let z = x * y in let x = z / y in (let y = x in y * z) + x * z; "
                        "show f(2 [m], 3 [s]);")
        self.scaled(text, {"m": (5, 1), "s": (1, 2)}, [("plain", (300, 1))])

    def test_halted_runs(self):
        for factors in ({}, {"m": (7, 1)}, {"m": (1, 1000), "s": (1000, 1), "g": (3, 9)}):
            scaled = library.Fraction(*factors.get("m", (1, 1)))
            first = ("plain", (scaled.numerator, scaled.denominator))
            head = UNITS + CALLS + "show 1 [m]; "
            self.scaled(head + "show 1 / (1 [m] - 0.001 [km]); show 2;", factors, [first], ZERO)
            self.scaled(head + "show 0 [N] ^ -1; show 2;", factors, [first], ZERO)
            self.scaled(head + f"show 1 [m] * {WEIGHTS[60]};", factors, [first], HEAVY)
            self.scaled(head + f"show {WEIGHTS[60]} / 0 [m];", factors, [first], HEAVY)
            self.scaled(head + f"show 0 [m] ^ -9 ^ 9; show {WEIGHTS[60]} * 1;", factors, [first], ZERO)
            self.scaled(head + SPEND_300 + "show id(1 [m]);", factors, [first, ("plain", (1, 1))], WEARY)
            text = head + "show if 1 [m] < 1 [km] then 1 / 0 else 1;"
            self.scaled(text, factors, [first, ("branch", text.index("if"), True)], ZERO)

    def test_factors_do_not_change_weights(self):
        text = "base m; unit u = 999999 [m^9]; "
        for factors in ({}, {"m": (1000, 1)}, {"m": (1, 1000)}):
            program = check(f"{text}show 1 [u] ^ 6 * {WEIGHTS[54]};")
            self.assertEqual(run_image(compile_program(program, factors=factors))[1], DONE)
            program = check(f"{text}show 1 [u] ^ 6 * {WEIGHTS[55]};")
            self.assertEqual(run_image(compile_program(program, factors=factors)), ([], HEAVY))

    def test_an_image_can_be_run_again(self):
        image = compile_program(check(CALLS + SPEND_300))
        self.assertEqual(run_image(image), ([("plain", (1, 1))], DONE))
        self.assertEqual(run_image(image), ([("plain", (1, 1))], DONE))


if __name__ == "__main__":
    unittest.main()
