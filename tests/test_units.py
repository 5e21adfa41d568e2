"""Points 3.1 and 3.2, and the interface of alnage/units.py."""
import unittest

from alnage import units
from alnage.errors import Clashing, Mistaken, Unknown
from alnage.infer import check
from alnage.units import Units, joined

GREAT = 10 ** 20


def product(text):
    """A product, by names and powers with colons: each name has the index of its place times ten."""
    parts = [part.partition(":") for part in text.split()]
    return tuple((name, int(power or 1), 10 * place) for place, (name, _, power) in enumerate(parts))


class UnitsTest(unittest.TestCase):
    def setUp(self):
        self.units = Units()

    def bases(self, names):
        for name in names.split():
            self.units.add_base(name, 0)

    def unit(self, name, top, text="", bottom=1):
        self.units.add_unit(name, (top, bottom), product(text), 0)

    def has(self, text, worth, dimension):
        with self.subTest(text):
            found = self.units.product(product(text))
            self.assertEqual(found, (worth, dimension))
            self.assertIs(type(found), tuple)
            self.assertEqual(list(found[1]), sorted(dimension))

    def refuses(self, error, action, *arguments):
        """An action is refused with such an error, and nothing is changed by it."""
        before = dict(self.units.known), self.units.bases()
        with self.assertRaises(type(error)) as caught:
            action(*arguments)
        self.assertEqual(vars(caught.exception), vars(error))
        self.assertEqual((self.units.known, self.units.bases()), before)


class JoinedTest(unittest.TestCase):
    def test_sums(self):
        self.assertEqual(joined({}, {}, 1), {})
        self.assertEqual(joined({"m": 1}, {}, 1), {"m": 1})
        self.assertEqual(joined({}, {"m": 1}, 1), {"m": 1})
        self.assertEqual(joined({"m": 1}, {"m": 2}, 1), {"m": 3})
        self.assertEqual(joined({"m": 1}, {"s": -2}, 1), {"m": 1, "s": -2})

    def test_factors(self):
        self.assertEqual(joined({"m": 1}, {"m": 2, "s": 1}, 3), {"m": 7, "s": 3})
        self.assertEqual(joined({"m": 1}, {"m": 2, "s": 1}, -1), {"m": -1, "s": -1})
        self.assertEqual(joined({"m": 1}, {"m": 2, "s": 1}, 0), {"m": 1})

    def test_no_zeros(self):
        self.assertEqual(joined({"m": 2, "s": 1}, {"m": 1}, -2), {"s": 1})
        self.assertEqual(joined({"m": 2}, {"m": 2}, -1), {})

    def test_names_ascend(self):
        self.assertEqual(list(joined({"c": 1, "e": 1}, {"a": 1, "d": 1, "f": 1}, 2)), ["a", "c", "d", "e", "f"])
        self.assertEqual(list(joined({"a": 1, "b": 1}, {"B": 1, "_": 1}, 1)), sorted(["a", "b", "B", "_"]))

    def test_arguments_are_left_alone(self):
        one, two = {"m": 1}, {"m": 2, "s": 1}
        found = joined(one, two, 2)
        found["x"] = 1
        joined(one, {}, 1)["x"] = 1
        self.assertEqual((one, two), ({"m": 1}, {"m": 2, "s": 1}))


class KnownTest(UnitsTest):
    """Point 3.1."""

    def test_all_is_defined_here(self):
        self.assertEqual(units.Units.__module__, "alnage.units")
        self.assertEqual(units.joined.__module__, "alnage.units")
        for name in ("__init__", "add_base", "add_unit", "bases", "product"):
            self.assertIn(name, vars(Units))

    def test_nothing_is_known(self):
        self.assertEqual(self.units.bases(), [])
        self.has("", (1, 1), {})

    def test_base_units(self):
        self.bases("s m")
        self.assertEqual(self.units.bases(), ["s", "m"])
        self.has("m", (1, 1), {"m": 1})
        self.has("s m", (1, 1), {"m": 1, "s": 1})
        self.has("s:-2 m:3", (1, 1), {"m": 3, "s": -2})

    def test_the_list_of_base_units_is_a_copy(self):
        self.bases("m")
        self.units.bases().append("x")
        self.assertEqual(self.units.bases(), ["m"])

    def test_units(self):
        self.bases("m s")
        self.unit("km", 1000, "m")
        self.unit("h", 3600, "s")
        self.has("km", (1000, 1), {"m": 1})
        self.has("km h:-1", (5, 18), {"m": 1, "s": -1})
        self.has("km:2", (10 ** 6, 1), {"m": 2})
        self.has("km:-3", (1, 10 ** 9), {"m": -3})

    def test_units_of_units(self):
        self.bases("m s kg")
        self.unit("cm", 1, "m", bottom=100)
        self.unit("inch", 254, "cm", bottom=100)
        self.unit("foot", 12, "inch")
        self.unit("N", 1, "kg m s:-2")
        self.unit("J", 1, "N m")
        self.unit("lot", 5, "J:-2 foot:3")
        self.has("foot", (381, 1250), {"m": 1})
        self.has("J", (1, 1), {"kg": 1, "m": 2, "s": -2})
        self.has("lot", (381 ** 3, 390625000), {"kg": -2, "m": -1, "s": 4})

    def test_numbers_in_other_terms(self):
        self.unit("half", 50, "", bottom=100)
        self.has("half", (1, 2), {})
        self.has("half half:-1", (1, 1), {})

    def test_a_unit_without_a_dimension(self):
        self.bases("m")
        self.unit("dozen", 12)
        self.unit("grade", 1, "m m:-1", bottom=100)
        self.has("dozen", (12, 1), {})
        self.has("grade", (1, 100), {})
        self.has("dozen m", (12, 1), {"m": 1})

    def test_powers_of_nothing(self):
        self.bases("m")
        self.unit("km", 1000, "m")
        self.has("km:0", (1, 1), {})
        self.has("km:0 m:2", (1, 1), {"m": 2})

    def test_names_that_cancel(self):
        self.bases("m s")
        self.unit("km", 1000, "m")
        self.has("m s m:-1", (1, 1), {"s": 1})
        self.has("km m:-1", (1000, 1), {})

    def test_what_is_returned_is_new(self):
        self.bases("m")
        self.unit("km", 1000, "m")
        for text in ("", "m", "km"):
            self.units.product(product(text))[1]["x"] = 1
        self.has("", (1, 1), {})
        self.has("m", (1, 1), {"m": 1})
        self.has("km", (1000, 1), {"m": 1})

    def test_units_are_apart(self):
        self.bases("m")
        self.assertEqual(Units().bases(), [])
        self.refuses(Unknown("m", 0), Units().product, product("m"))


class RefusedTest(UnitsTest):
    """Point 3.2."""

    def test_known_names(self):
        self.bases("m")
        self.unit("km", 1000, "m")
        for name in ("m", "km"):
            self.refuses(Clashing(name, 7), self.units.add_base, name, 7)
            self.refuses(Clashing(name, 7), self.units.add_unit, name, (1, 1), (), 7)

    def test_clashing_comes_first(self):
        self.bases("a b c d e f")
        self.refuses(Clashing("f", 3), self.units.add_base, "f", 3)
        self.refuses(Clashing("a", 3), self.units.add_unit, "a", (0, 1), product("x"), 3)

    def test_seven_base_units(self):
        self.bases("a b c d e")
        self.units.add_base("f", 5)
        self.assertEqual(self.units.bases(), ["a", "b", "c", "d", "e", "f"])
        self.refuses(Mistaken(6, "bases"), self.units.add_base, "g", 6)
        self.unit("g", 2, "f")
        self.has("g", (2, 1), {"f": 1})

    def test_units_do_not_count_as_base_units(self):
        for name in "abcdefgh":
            self.unit(name, 2)
        self.bases("i j k l m n")
        self.refuses(Mistaken(1, "bases"), self.units.add_base, "o", 1)

    def test_the_number_nothing(self):
        self.refuses(Mistaken(4, "zero"), self.units.add_unit, "x", (0, 1), (), 4)
        self.refuses(Mistaken(4, "zero"), self.units.add_unit, "x", (0, 1000), (), 4)
        self.unit("x", 1, bottom=10000)
        self.has("x", (1, 10000), {})

    def test_nothing_is_asked_before_the_product(self):
        self.refuses(Mistaken(4, "zero"), self.units.add_unit, "x", (0, 1), product("y"), 4)

    def test_unknown_names(self):
        self.bases("m")
        self.refuses(Unknown("x", 0), self.units.product, product("x"))
        self.refuses(Unknown("x", 10), self.units.product, product("m x y"))
        self.refuses(Unknown("x", 10), self.units.product, product("m x:0"))
        self.refuses(Unknown("x", 10), self.units.add_unit, "y", (1, 1), product("m x"), 7)

    def test_a_unit_is_not_known_in_its_own_line(self):
        self.refuses(Unknown("x", 0), self.units.add_unit, "x", (1, 1), product("x"), 7)

    def test_the_worth_of_a_product(self):
        for name, top, bottom in (("top", GREAT, 1), ("low", 1, GREAT)):
            self.units.known[name] = ((top, bottom), {})
        self.unit("two", 2)
        self.has("top", (GREAT, 1), {})
        self.has("low", (1, GREAT), {})
        self.has("top low", (1, 1), {})
        self.refuses(Mistaken(10, "unit"), self.units.product, product("top two"))
        self.refuses(Mistaken(10, "unit"), self.units.product, product("low two:-1"))
        self.has("top two:-1", (GREAT // 2, 1), {})
        self.has("low two", (1, GREAT // 2), {})

    def test_the_worth_so_far(self):
        self.units.known["top"] = ((GREAT, 1), {})
        self.unit("two", 2)
        self.has("top two:-1 two", (GREAT, 1), {})
        self.refuses(Mistaken(10, "unit"), self.units.product, product("top two two:-1"))
        self.refuses(Mistaken(0, "unit"), self.units.product, product("top:2 top:-1"))
        self.refuses(Mistaken(10, "unit"), self.units.product, product("top:-1 two:-1"))

    def test_the_worth_in_lowest_terms(self):
        self.unit("a", 6, bottom=4)
        self.unit("b", 1, "a:9")
        self.has("b a:-9", (1, 1), {})
        self.has("b:4", (3 ** 36, 2 ** 36), {})
        self.has("b:4 a:5", (3 ** 41, 2 ** 41), {})
        self.refuses(Mistaken(10, "unit"), self.units.product, product("b:4 a:6"))

    def test_just_below_at_and_above_the_greatest_worth(self):
        self.unit("k", 100000)
        self.unit("G", 1, "k:3")
        self.has("G k", (GREAT, 1), {})
        self.has("G:-1 k:-1", (1, GREAT), {})
        self.unit("below", 99999, "G")
        self.unit("at", 100000, "G")
        self.has("below", (99999 * 10 ** 15, 1), {})
        self.has("at", (GREAT, 1), {})
        self.refuses(Mistaken(8, "unit"), self.units.add_unit, "above", (100001, 1), product("G"), 8)
        self.refuses(Mistaken(8, "unit"), self.units.add_unit, "above", (1000001, 10), product("G"), 8)
        self.unit("under", 1, "at:-1")
        self.has("under", (1, GREAT), {})
        self.refuses(Mistaken(8, "unit"), self.units.add_unit, "above", (1, 10), product("at:-1"), 8)
        self.refuses(Mistaken(8, "unit"), self.units.add_unit, "above", (3, 10), product("at:-1"), 8)
        self.unit("ten", 10, "at:-1")
        self.has("ten", (1, GREAT // 10), {})

    def test_the_product_of_a_unit_is_asked_before_its_worth(self):
        self.unit("k", 100000)
        self.refuses(Mistaken(0, "unit"), self.units.add_unit, "x", (1, 1000), product("k:5"), 8)
        self.refuses(Unknown("y", 10), self.units.add_unit, "x", (999999, 1), product("k:4 y"), 8)
        self.refuses(Mistaken(0, "unit"), self.units.add_unit, "x", (1, 1000), product("k:5 y"), 8)

    def test_just_below_at_and_above_the_greatest_exponent(self):
        self.bases("m s")
        self.unit("v", 1, "m:8")
        self.has("v:4 m:7", (1, 1), {"m": 39})
        self.has("v:5", (1, 1), {"m": 40})
        self.has("v:-4 m:-7", (1, 1), {"m": -39})
        self.has("v:-5", (1, 1), {"m": -40})
        self.refuses(Mistaken(10, "unit"), self.units.product, product("v:5 m"))
        self.refuses(Mistaken(10, "unit"), self.units.product, product("v:-5 m:-1"))
        self.refuses(Mistaken(0, "unit"), self.units.product, product("v:6 m:-9"))
        self.refuses(Mistaken(20, "unit"), self.units.product, product("s v:5 m m:-1"))
        self.refuses(Mistaken(10, "unit"), self.units.add_unit, "x", (1, 1), product("v:5 m"), 8)
        self.unit("y", 2, "v:5")
        self.has("y", (2, 1), {"m": 40})
        self.has("y s", (2, 1), {"m": 40, "s": 1})

    def test_the_exponents_of_all_base_units(self):
        self.bases("m s")
        self.unit("v", 1, "m s:9")
        self.has("v:4 s:4", (1, 1), {"m": 4, "s": 40})
        self.refuses(Mistaken(10, "unit"), self.units.product, product("v:4 s:5"))


class ProgramTest(unittest.TestCase):
    """The same, of texts: the sign @ marks the index that is told."""

    def refuses(self, marked, error, *fields):
        at = marked.index("@")
        with self.subTest(marked):
            with self.assertRaises(error) as caught:
                check(marked.replace("@", ""))
            self.assertEqual(list(vars(caught.exception).values()), [*fields[:1], at] if error is not Mistaken
                             else [at, *fields])

    def test_units_of_a_program(self):
        found = check("base m; base s; unit km = 1000 [m]; unit v = 2.50 [km s^-1];").units
        self.assertIs(type(found), Units)
        self.assertEqual(found.bases(), ["m", "s"])
        self.assertEqual(found.product((("v", 1, 0),)), ((2500, 1), {"m": 1, "s": -1}))

    def test_units_and_functions_have_separate_names(self):
        program = check("base f; fun f(f) = f * 2 [f]; unit g = 2 [f]; fun g() = f(1 [g]); show g();")
        self.assertEqual(program.shows[0][2], {"f": 2})

    def test_clashing(self):
        self.refuses("base m; @base m;", Clashing, "m")
        self.refuses("base m; @unit m = 0 [x];", Clashing, "m")
        self.refuses("unit m = 1 []; @base m;", Clashing, "m")
        self.refuses("unit m = 1 []; @unit m = 1 [];", Clashing, "m")

    def test_bases(self):
        six = "base a; base b; base c; base d; base e; base f; "
        self.assertEqual(check(six).units.bases(), list("abcdef"))
        self.refuses(six + "@base g;", Mistaken, "bases")
        self.refuses(six + "@base a;", Clashing, "a")

    def test_zero(self):
        self.refuses("@unit x = 0 [];", Mistaken, "zero")
        self.refuses("@unit x = 0.00 [y];", Mistaken, "zero")
        check("unit x = 0.0001 [];")

    def test_unknown(self):
        self.refuses("unit x = 1 [@m]; base m;", Unknown, "m")
        self.refuses("unit x = 1 [@x];", Unknown, "x")
        self.refuses("base m; unit x = 1 [m @f^2]; fun f() = 1;", Unknown, "f")
        self.refuses("show 1 [@m]; base m;", Unknown, "m")

    def test_limits(self):
        text = "unit k = 100000 []; unit t = 100000 [k^3]; "
        check(text + "show 1 [t];")
        self.refuses(text + "unit two = 2 []; show 1 [t @two];", Mistaken, "unit")
        self.refuses(text + "@unit x = 1.1 [t];", Mistaken, "unit")
        self.refuses("base m; unit v = 1 [m^8]; show 1 [v^5 @m];", Mistaken, "unit")
        self.refuses("base m; unit v = 1 [m^8]; show 1 [v^-5 @m^-1];", Mistaken, "unit")
        self.assertEqual(check("base m; unit v = 1 [m^8]; show 1 [v^5] * 1 [m];").shows[0][2], {"m": 41})


if __name__ == "__main__":
    unittest.main()
