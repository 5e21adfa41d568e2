"""Point 2.5."""
import unittest

from alnage.errors import Malformed, Oversized
from alnage.parser import parse

# Each way in which the level grows by one: what stands before and behind the part of the next level.
AROUND = {
    "parentheses": ("(", ")"),
    "the only argument": ("f(", ")"),
    "the first argument": ("f(", ", y)"),
    "a later argument": ("f(y, ", ")"),
    "from": ("iterate f 2 from ", ""),
    "not": ("not ", ""),
    "the test of an if": ("if ", " then y else z"),
    "the first branch of an if": ("if y then ", " else z"),
    "the second branch of an if": ("if y then z else ", ""),
    "what a let binds": ("let y = ", " in z"),
    "the body of a let": ("let y = z in ", ""),
}
CHAINED = ("or", "and", "+", "-", "*", "/")
COMPARISONS = ("<", "<=", "==")
LINES = ("show {};", "show {} in [m];", "fun f() = {};", "fun f(a: [m]): [m] = {};", "base m; show x; show {};")


def nested(before, behind, times, inner="x"):
    return before * times + inner + behind * times


def at_level(level, text):
    """The text, in as many parentheses as give it this level."""
    return nested("(", ")", level - 1, text)


class LevelTest(unittest.TestCase):
    def fits(self, text):
        for line in LINES:
            with self.subTest(line.format(text)):
                self.assertTrue(parse(line.format(text)))

    def too_deep(self, text):
        for line in LINES:
            with self.subTest(line.format(text)):
                with self.assertRaises(Oversized) as caught:
                    parse(line.format(text))
                self.assertEqual(caught.exception.limit, "depth")


class WaysTest(LevelTest):
    """Level 24 is let by and level 25 is not, by each way alone and behind parentheses."""

    def test_each_way_to_be_inside(self):
        for way, (before, behind) in AROUND.items():
            with self.subTest(way):
                self.fits(nested(before, behind, 23))
                self.too_deep(nested(before, behind, 24))

    def test_one_step_of_each_way(self):
        for way, (before, behind) in AROUND.items():
            with self.subTest(way):
                self.fits(at_level(23, before + "x" + behind))
                self.too_deep(at_level(24, before + "x" + behind))

    def test_chains(self):
        for operator in CHAINED:
            with self.subTest(operator):
                self.fits("x" + f" {operator} y" * 23)
                self.too_deep("x" + f" {operator} y" * 24)
                self.fits(at_level(23, f"x {operator} y"))
                self.too_deep(at_level(24, f"x {operator} y"))

    def test_chains_of_two_operators(self):
        for one, two in (("+", "-"), ("-", "+"), ("*", "/"), ("/", "*")):
            with self.subTest(one):
                self.fits("x" + f" {one} y {two} z" * 11 + f" {one} y")
                self.too_deep("x" + f" {one} y {two} z" * 12)

    def test_powers(self):
        self.fits("x" + "^1" * 23)
        self.too_deep("x" + "^1" * 24)
        self.fits(at_level(23, "x^-2"))
        self.too_deep(at_level(24, "x^-2"))
        self.fits("2 [m]" + "^1" * 23)
        self.too_deep("f(x)" + "^1" * 24)

    def test_comparisons(self):
        for operator in COMPARISONS:
            with self.subTest(operator):
                self.fits(at_level(23, f"x {operator} y"))
                self.too_deep(at_level(24, f"x {operator} y"))
                self.fits(nested(f"x {operator} (", ")", 11, f"x {operator} y"))
                self.too_deep(nested(f"x {operator} (", ")", 12))


class GrowthTest(LevelTest):
    """By how much the level grows, and for what."""

    def test_the_first_part_of_a_chain_is_no_deeper(self):
        for operator in CHAINED + COMPARISONS:
            with self.subTest(operator):
                self.fits(f"{at_level(24, 'x')} {operator} y")
                self.fits(f"{at_level(23, 'x')} {operator} {at_level(23, 'x')}")
                self.too_deep(f"y {operator} {at_level(24, 'x')}")
        self.fits(at_level(24, "x") + "^2")
        self.fits(at_level(24, "x") + "^1" * 23)

    def test_a_chain_grows_with_each_operator(self):
        for operator in CHAINED:
            with self.subTest(operator):
                chain = "x" + f" {operator} y" * 9 + f" {operator} "
                self.fits(chain + at_level(14, "x"))
                self.too_deep(chain + at_level(15, "x"))
                self.fits(chain + at_level(14, "x") + f" {operator} " + at_level(13, "x"))
                self.too_deep(chain + at_level(13, "x") + f" {operator} " + at_level(14, "x"))

    def test_a_chain_grows_inside_a_chain(self):
        ways = (("or", "and"), ("and", "<"), ("<", "+"), ("+", "*"), ("-", "/"), ("*", "^"), ("or", "<="), ("==", "*"))
        for outer, inner in ways:
            with self.subTest(outer):
                last = "1" if inner == "^" else "y"
                self.fits(at_level(22, f"x {outer} x {inner} {last}"))
                self.too_deep(at_level(23, f"x {outer} x {inner} {last}"))

    def test_a_chain_begins_where_it_is(self):
        products = "x" + " * y" * 23
        self.fits(products)
        self.fits(products + " + x" + " * y" * 22)
        self.too_deep(products + " + x" + " * y" * 23)
        self.fits(products + " + x" + " * y" * 22 + " - x" + " * y" * 21)
        self.too_deep(products + " + x" + " * y" * 22 + " - x" + " * y" * 22)
        self.fits(products + " < x" + " * y" * 22)
        self.too_deep(products + " < x" + " * y" * 23)

    def test_powers_deepen_their_own_chain_alone(self):
        self.fits("x" + "^1" * 23 + " * y" + "^1" * 22)
        self.too_deep("x" + "^1" * 23 + " * y" + "^1" * 23)
        self.fits("x" + "^1" * 23 + " + x" + "^1" * 22 + " or x" + "^1" * 22)
        self.too_deep("x" + "^1" * 23 + " or x" + "^1" * 23)

    def test_not_and_what_is_below(self):
        self.fits("not x" + " + y" * 22)
        self.too_deep("not x" + " + y" * 23)
        self.fits("not x" + " and y" * 23)
        self.too_deep("not x" + " and y" * 24)
        self.fits(nested("not ", "", 21, "x < y + z"))
        self.too_deep(nested("not ", "", 22, "x < y + z"))

    def test_from_and_what_is_behind(self):
        self.fits(nested("iterate f 1 from ", "", 23, "x") + "^1" * 23)
        self.too_deep(nested("iterate f 1 from ", "", 1, "x") + "^1" * 24)
        self.fits(nested("iterate f 1 from ", "", 12, at_level(12, "x")))
        self.too_deep(nested("iterate f 1 from ", "", 12, at_level(13, "x")))

    def test_parts_beside_each_other_are_no_deeper(self):
        part = at_level(23, "x")
        self.fits("f(" + ", ".join([part] * 30) + ")")
        self.fits(f"if {part} then {part} else {part}")
        self.fits(f"let y = {part} in {part}")
        self.fits("f(" + ", ".join("x" * 200) + ")")

    def test_what_has_no_level(self):
        self.fits(at_level(24, "x"))
        self.fits(at_level(24, "1 [m s^-2]"))
        self.fits(at_level(24, "true"))
        self.fits(at_level(24, "f()"))
        self.fits("1 [" + "m^2 " * 40 + "]")
        parameters = ", ".join(f"a{index}: [m]" for index in range(40))
        self.assertTrue(parse(f"fun f({parameters}) = 1;"))

    def test_each_line_begins_anew(self):
        self.assertEqual(len(parse(f"show {at_level(24, 'x')};" * 40)), 40)
        self.assertEqual(len(parse(f"fun f() = {at_level(24, 'x')};" * 40)), 40)


class OrderTest(LevelTest):
    """Which error is met first."""

    def malformed(self, text, at):
        with self.assertRaises(Malformed) as caught:
            parse(text)
        self.assertEqual(caught.exception.at, at)

    def test_a_malformed_token_before_the_level(self):
        self.malformed("show ) " + at_level(25, "x") + ";", 5)
        self.malformed("base; show " + at_level(25, "x") + ";", 4)
        self.malformed("show " + "(" * 23 + ")", 28)
        self.malformed("show " + "(" * 23, 28)
        self.malformed("show " + at_level(24, "x") + " " + at_level(25, "x") + ";", 53)
        self.malformed("show " + "(" * 23 + "let 1 = x in x;", 32)
        self.malformed("show " + "(" * 23 + "iterate f 21 from x;", 38)
        self.malformed("show " + "(" * 23 + "x, x + y;", 29)

    def test_a_malformed_token_behind_the_level(self):
        self.too_deep(at_level(25, "x") + ")")
        self.too_deep(at_level(25, "x") + " x^10 from")
        self.too_deep("(" * 24 + "x")
        self.too_deep("x" + " + y" * 24 + " from")
        self.too_deep("x" + "^1" * 24 + "^10")

    def test_a_text_that_is_not_split_is_not_read(self):
        self.malformed("show " + at_level(25, "x") + "; 1a", 56)

    def test_the_level_grows_at_the_sign_of_a_power(self):
        self.too_deep("x" + "^1" * 23 + "^10")
        self.malformed("show x" + "^1" * 22 + "^10;", 51)

    def test_deep_trees_within_the_levels(self):
        text = "x"
        for level in range(24, 0, -1):
            count = 24 - level
            text += "^1" * count + "*x" * count + "+x" * count + " and x" * count + " or x" * count
            if level > 1:
                text = "(" + text + ")"
        self.assertLessEqual(len(text), 11900)
        self.fits(text)
        e = parse("show " + text + ";")[0][1]
        depth = 0
        while e[0] != "var":
            e = e[1]
            depth += 1
        self.assertEqual(depth, 5 * sum(range(24)))


if __name__ == "__main__":
    unittest.main()
