"""Point 4.4, and the interface of alnage/infer.py: checked programs, told and witness."""
import itertools
import unittest

from alnage import infer
from alnage.errors import Unfit
from alnage.infer import check, told, witness
from alnage.units import Units
from programs import ProgramTest, total

M = "base m; base s; "
M1, S1 = {"m": 1}, {"s": 1}
# Functions of two parameters, among them such with unknowns that stand for parts of their dimensions.
BODIES = (
    "x * y", "x / y", "x + y", "x", "1", "x < y", "true", "x ^ 2 + y ^ 3", "x ^ 4 == y ^ 6", "x ^ 2 < y ^ 2 * 1 [m^2]",
    "x * y + 1 [m]", "x + 1 [m]", "x ^ 2 * y + 1 [m^3]", "if x == 1 then y else y", "x ^ 2 / y ^ 4 + 1 [m^2]",
    "x ^ 0", "x * sq(y)", "sq(x) + cube(y)", "cube(sq(x)) / cube(x)", "iterate sq 3 from x / y", "root(x, y)",
    "root(x, x) * y", "x / root(sq(x), y)", "let z = x / y in z * z * z + x", "x ^ 3 * y ^ 2 + y ^ 4 * 1 [m]",
    "x ^ 2 + 1 [m^4] * y ^ -2", "root(x * 1 [m], y / 1 [m])",
)
HELP = "base m; fun sq(x) = x * x; fun cube(x) = x * x * x; fun root(x, y) = if x == y * y then y else y; "


class ProgramOfTextTest(ProgramTest):
    def test_all_is_defined_here(self):
        for name in ("check", "told", "witness"):
            self.assertEqual(getattr(infer, name).__module__, "alnage.infer")

    def test_no_lines(self):
        program = check("")
        self.assertIs(type(program.units), Units)
        self.assertEqual((program.schemes, program.functions, program.shows), ({}, {}, []))
        self.assertEqual(program.units.bases(), [])

    def test_kinds(self):
        program = check(M + "fun f(x) = x; show f(1 [m]) in [m];")
        self.assertIs(type(program.schemes), dict)
        self.assertIs(type(program.functions), dict)
        self.assertIs(type(program.functions["f"]), tuple)
        self.assertIs(type(program.functions["f"][0]), tuple)
        self.assertIs(type(program.shows), list)
        self.assertIs(type(program.shows[0]), tuple)
        self.assertIs(type(program.shows[0][2]), dict)

    def test_functions(self):
        program = check("fun f(x, y) = x; base m; fun g() = true; fun h(b, a: [m], c): [m] = a;")
        self.assertEqual(program.functions, {
            "f": (("x", "y"), ("var", "x", 14)),
            "g": ((), ("bool", True)),
            "h": (("b", "a", "c"), ("var", "a", 68)),
        })
        self.assertEqual(list(program.schemes), ["f", "g", "h"])

    def test_shows(self):
        program = check("base m; show 2 [m]; show 1 < 2; show 3 [m] in [m]; show 4; show 5 in [];")
        one = (("m", 1, 16),)
        self.assertEqual(program.shows, [
            (("number", (2, 1), one, 13), None, M1),
            (("lt", ("number", (1, 1), (), 25), ("number", (2, 1), (), 29), 27), None, None),
            (("number", (3, 1), (("m", 1, 40),), 37), (("m", 1, 47),), M1),
            (("number", (4, 1), (), 56), None, {}),
            (("number", (5, 1), (), 64), (), {}),
        ])

    def test_dimensions_ascend(self):
        program = check("base s; base m; base a; show 1 [s m a]; show 1 [s] * 1 [a] / 1 [m];")
        self.assertEqual([list(show[2]) for show in program.shows], [["a", "m", "s"], ["a", "m", "s"]])

    def test_programs_are_apart(self):
        one, two = check("base m; fun f() = 1; show 1;"), check("")
        self.assertEqual(two.units.bases(), [])
        self.assertEqual((len(one.shows), two.shows, two.schemes), (1, [], {}))

    def test_the_example(self):
        program = check("base m; base s; unit km = 1000 [m]; fun v(d, t) = d / t; show v(3 [km], 5 [s]); "
                        "show v(1 [km], 2 [s]) in [km s^-1];")
        self.assertEqual([show[2] for show in program.shows], [{"m": 1, "s": -1}] * 2)


class ToldTest(ProgramTest):
    def test_kinds(self):
        found = self.scheme(M + "fun f(x, y: [m]) = x * y;", "f")
        self.assertIs(type(found), tuple)
        self.assertIs(type(found[1]), list)
        for form in [*found[1], found[2]]:
            self.assertIs(type(form), tuple)
            self.assertEqual([type(part) for part in form], [dict, dict])

    def test_no_unknowns(self):
        self.assertEqual(self.scheme(M + "fun f(x: [m], y: [s]): [m s] = x * y;", "f"),
                         (0, [({}, M1), ({}, S1)], ({}, {"m": 1, "s": 1})))
        self.assertEqual(self.scheme(M + "fun f(x) = x + 1 [m s];", "f"),
                         (0, [({}, {"m": 1, "s": 1})], ({}, {"m": 1, "s": 1})))

    def test_one_unknown(self):
        count, (form,), result = self.scheme("fun f(x) = x * x;", "f")
        self.assertEqual((count, form[1], result[1]), (1, {}, {}))
        sign = form[0][0]
        self.assertIn(sign, (1, -1))
        self.assertEqual((form[0], result[0]), ({0: sign}, {0: 2 * sign}))

    def test_an_unknown_for_parts_of_dimensions(self):
        count, (one, two), result = self.scheme("fun f(x, y) = if x ^ 2 == y ^ 3 then x / y else x / y;", "f")
        sign = result[0][0]
        self.assertIn(sign, (1, -1))
        self.assertEqual((count, one, two, result),
                         (1, ({0: 3 * sign}, {}), ({0: 2 * sign}, {}), ({0: sign}, {})))

    def test_truth_values(self):
        self.assertIsNone(self.scheme("fun f(x, y) = x < y;", "f")[2])
        self.assertIsNone(self.scheme("fun f() = true;", "f")[2])

    def test_the_number_of_unknowns(self):
        for count, body in ((2, "x * y"), (1, "x + y"), (2, "x"), (1, "x + 1"), (0, "x + y * 1 [m] < 1"),
                            (1, "x * y + 1"), (1, "x ^ 4 == y ^ 6"), (2, "x ^ 0 + y ^ 0"), (0, "x + y * y == x * x")):
            with self.subTest(body):
                self.assertEqual(self.scheme(f"base m; fun f(x, y) = {body};", "f")[0], count)

    def test_the_unknowns_of_calls_are_not_told(self):
        self.assertEqual(self.scheme(HELP + "fun f(x) = sq(sq(sq(x)));", "f")[0], 1)
        self.assertEqual(self.scheme(HELP + "fun f(x) = sq(sq(1 [m])) * x ^ 0;", "f")[0], 1)
        self.assertEqual(self.scheme(HELP + "fun f() = sq(root(4 [m^2], 2 [m]));", "f"), (0, [], ({}, {"m": 2})))

    def test_what_is_told_can_be_changed(self):
        program = check("base m; fun f(x) = x * 1 [m]; show f(1);")
        before = told(program.schemes["f"])
        again = told(program.schemes["f"])
        again[1][0][0][5] = 1
        again[2][1]["x"] = 1
        again[1].append(1)
        self.assertEqual(told(program.schemes["f"]), before)
        self.assertEqual(len(before[1]), 1)

    def test_zeros_are_not_told_and_names_ascend(self):
        for body in BODIES:
            count, parameters, result = self.scheme(HELP + f"fun f(x, y) = {body} ;", "f")
            for unknowns, dimension in parameters + ([] if result is None else [result]):
                self.assertNotIn(0, unknowns.values())
                self.assertNotIn(0, dimension.values())
                self.assertLessEqual(set(unknowns), set(range(count)))
        result = self.scheme("base z; base b; fun f(x) = x * 1 [z b] / x;", "f")[2]
        self.assertEqual((result[0], list(result[1])), ({}, ["b", "z"]))


class WitnessTest(ProgramTest):
    def setUp(self):
        self.program = check(
            M + "fun mul(x, y) = x * y; fun to(x: [m]): [m^2] = x * x; fun less(x, y) = x < y; fun none() = 1 [s];"
            "fun part(x, y) = if x ^ 2 == y ^ 3 then x / y else x / y; fun by(x) = x * 1 [m]; fun yes() = true;"
            "fun half(x) = if x == 1 [m] then 2 * x else x;")

    def witness(self, name, parameters, result, bases=("m", "s")):
        return witness(self.program.schemes[name], list(bases), parameters, result)

    def fits(self, name, parameters, result):
        """There are dimensions, and they do what is promised."""
        with self.subTest(name=name, parameters=parameters, result=result):
            found = self.witness(name, parameters, result)
            self.assertIs(type(found), list)
            count, forms, told_result = told(self.program.schemes[name])
            self.assertEqual(len(found), count)
            for dimension in found:
                self.assertIs(type(dimension), dict)
                self.assertEqual(list(dimension), sorted(dimension))
                self.assertNotIn(0, dimension.values())
            self.assertEqual([total(form, found) for form in forms], parameters)
            self.assertEqual(None if told_result is None else total(told_result, found), result)

    def fits_not(self, name, parameters, result):
        with self.subTest(name=name, parameters=parameters, result=result):
            self.assertIsNone(self.witness(name, parameters, result))

    def test_dimensions_that_fit(self):
        self.fits("mul", [M1, S1], {"m": 1, "s": 1})
        self.fits("mul", [{}, {}], {})
        self.fits("mul", [{"m": 2, "s": -1}, {"m": -2}], {"s": -1})
        self.fits("to", [M1], {"m": 2})
        self.fits("less", [{"m": 7}, {"m": 7}], None)
        self.fits("none", [], S1)
        self.fits("yes", [], None)
        self.fits("part", [{"m": 3, "s": -6}, {"m": 2, "s": -4}], {"m": 1, "s": -2})
        self.fits("by", [{"s": 3}], {"m": 1, "s": 3})
        self.fits("by", [{"m": -1}], {})
        self.fits("half", [M1], M1)

    def test_dimensions_that_do_not_fit(self):
        self.fits_not("mul", [M1, S1], {"m": 1})
        self.fits_not("mul", [M1, S1], {"m": 1, "s": 2})
        self.fits_not("to", [S1], {"m": 2})
        self.fits_not("to", [M1], {"m": 1})
        self.fits_not("to", [{}], {"m": 2})
        self.fits_not("less", [M1, S1], None)
        self.fits_not("less", [M1, {"m": 2}], None)
        self.fits_not("none", [], {})
        self.fits_not("none", [], M1)
        self.fits_not("by", [S1], S1)
        self.fits_not("half", [S1], S1)

    def test_only_fractions_would_fit(self):
        self.fits_not("part", [{"m": 1}, {"m": 1}], {})
        self.fits_not("part", [{"m": 3}, {"m": 2}], {"m": 2})
        self.fits_not("part", [{"m": 6}, {"m": 2}], {"m": 4})
        self.fits_not("part", [{"m": 3, "s": 1}, {"m": 2}], {"m": 1, "s": 1})

    def test_another_number_of_parameters(self):
        self.fits_not("mul", [M1], M1)
        self.fits_not("mul", [M1, {}, {}], M1)
        self.fits_not("mul", [], {})
        self.fits_not("none", [S1], S1)
        self.fits_not("less", [M1], None)

    def test_another_kind_of_result(self):
        self.fits_not("mul", [M1, S1], None)
        self.fits_not("less", [M1, M1], {})
        self.fits_not("less", [M1, M1], M1)
        self.fits_not("none", [], None)
        self.fits_not("yes", [], {})

    def test_only_some_base_units(self):
        self.assertEqual(self.witness("mul", [{}, {}], {}, ()), [{}, {}])
        self.assertEqual(len(self.witness("mul", [M1, {}], M1, ("m",))), 2)
        self.assertEqual(self.witness("to", [M1], {"m": 2}, ("m",)), [])
        self.assertEqual(self.witness("none", [], S1, ("s",)), [])

    def test_dimensions_are_of_the_base_units_that_are_told(self):
        # Another base unit in the form of the result: no dimension of seconds makes up for it.
        self.assertIsNone(self.witness("by", [S1], S1, ("s",)))
        self.assertIsNone(self.witness("to", [{}], {}, ()))
        self.assertIsNone(self.witness("none", [], {}, ("m",)))

    def test_base_units_of_other_programs(self):
        found = self.witness("mul", [{"kg": 1}, {"kg": 2, "z": 1}], {"kg": 3, "z": 1}, ("z", "kg"))
        self.assertEqual([list(dimension) for dimension in found], [["kg"], ["kg", "z"]])

    def test_arguments_are_left_alone(self):
        parameters, result, bases = [dict(M1), dict(S1)], {"m": 1, "s": 1}, ["s", "m"]
        found = witness(self.program.schemes["mul"], bases, parameters, result)
        found[0]["x"] = 1
        self.assertEqual((parameters, result, bases), ([M1, S1], {"m": 1, "s": 1}, ["s", "m"]))
        self.fits("mul", [M1, S1], {"m": 1, "s": 1})


class SolutionsTest(ProgramTest):
    """A scheme tells all solutions, and each in just one way."""

    def let_by(self, body, one, two, result):
        """Whether a function is let by if products tell the dimensions of its parameters and its result."""
        told_result = "" if result is None else f": [m^{result}]"
        try:
            check(HELP + f"fun f(x: [m^{one}], y: [m^{two}]){told_result} = {body};")
        except Unfit:
            return False
        return True

    def test_all_solutions(self):
        for body in BODIES:
            scheme = check(HELP + f"fun f(x, y) = {body};").schemes["f"]
            results = (None,) if told(scheme)[2] is None else range(-6, 7)
            some = 0
            for one, two, result in itertools.product(range(-3, 4), range(-3, 4), results):
                dimensions = [{"m": exponent} if exponent else {} for exponent in (one, two, result or 0)]
                found = witness(scheme, ["m"], dimensions[:2], None if result is None else dimensions[2])
                some += found is not None
                if (found is not None) != self.let_by(body, one, two, result):
                    self.fail(f"{body}: {one}, {two}, {result}")
            self.assertGreater(some, 0, body)

    def test_each_in_just_one_way(self):
        for body in BODIES:
            scheme = check(HELP + f"fun f(x, y) = {body};").schemes["f"]
            count, parameters, result = told(scheme)
            seen = []
            for exponents in itertools.product(range(-2, 3), repeat=count):
                dimensions = [{"m": exponent} if exponent else {} for exponent in exponents]
                forms = [total(form, dimensions) for form in parameters]
                whole = None if result is None else total(result, dimensions)
                self.assertEqual(witness(scheme, ["m"], forms, whole), dimensions)
                self.assertNotIn((forms, whole), seen)
                seen.append((forms, whole))

    def test_solutions_of_each_base_unit(self):
        scheme = check("base a; base b; base c; fun f(x, y) = x ^ 2 * 1 [a^3 b] + y ^ 3 * 1 [b^-1 c^4];").schemes["f"]
        count, (one, two), result = told(scheme)
        self.assertEqual(count, 1)
        for dimension in ({}, {"a": 5, "c": -1}, {"b": 2}):
            found = [total(form, [dimension]) for form in (one, two, result)]
            for base, more in (("a", 3), ("b", 1), ("c", 0)):
                self.assertEqual(2 * found[0].get(base, 0) + more, found[2].get(base, 0))
            for base, more in (("a", 0), ("b", -1), ("c", 4)):
                self.assertEqual(3 * found[1].get(base, 0) + more, found[2].get(base, 0))

    def test_great_exponents(self):
        text = HELP + "fun f(x) = x ^ 9 ^ 9 ^ 9 ^ 9; fun g(x) = f(f(f(x))); "
        count, (one,), result = self.scheme(text, "g")
        self.assertEqual((count, abs(one[0][0]), abs(result[0][0])), (1, 1, 9 ** 12))
        self.shows(text + "show g(1 [m]);", {"m": 9 ** 12})
        self.unfit(text + "fun h(x): [m] = g(x);", "h", ("m",))


if __name__ == "__main__":
    unittest.main()
