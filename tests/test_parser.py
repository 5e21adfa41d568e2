"""Points 2.1 to 2.4, and the interface of alnage/parser.py."""
import unittest

from alnage import parser
from alnage.errors import Malformed, Oversized
from alnage.lexer import tokens
from alnage.parser import parse


def var(name, at):
    return ("var", name, at)


def num(top, at):
    return ("number", (top, 1), (), at)


class ParserTest(unittest.TestCase):
    def refuses(self, text, at):
        with self.subTest(text=text):
            with self.assertRaises(Malformed) as caught:
                parse(text)
            self.assertEqual(caught.exception.at, at)

    def ends_too_early(self, text):
        self.refuses(text, len(text))

    def reads(self, text, expected):
        """A show without a product, that only lacks its semicolon, has this expression."""
        with self.subTest(text=text):
            self.assertEqual(parse(text + ";"), [("show", expected, None, 0)])

    def same(self, text, brackets):
        """Two expressions have the same tree, but for the indexes."""
        with self.subTest(text=text):
            self.assertEqual(without_indexes(parse("show " + text + ";")),
                             without_indexes(parse("show " + brackets + ";")))


def without_indexes(tree):
    """A tree without the index that ends each of its tuples."""
    if isinstance(tree, list):
        return [without_indexes(part) for part in tree]
    if not isinstance(tree, tuple):
        return tree
    if tree and isinstance(tree[0], str) and isinstance(tree[-1], int) and not isinstance(tree[-1], bool):
        tree = tree[:-1]
    return tuple(without_indexes(part) for part in tree)


class InterfaceTest(unittest.TestCase):
    def test_parse_is_defined_here(self):
        self.assertEqual(parser.parse.__module__, "alnage.parser")

    def test_the_example(self):
        self.assertEqual(parse("base m; show 2.5 [m] * x;"), [
            ("base", "m", 0),
            ("show", ("mul", ("number", (25, 10), (("m", 1, 18),), 13), ("var", "x", 23), 21), None, 8),
        ])

    def test_kinds(self):
        lines = parse("fun f(a, b: [m]) = f(a, 1); show 1;")
        self.assertIs(type(lines), list)
        self.assertIs(type(lines[0]), tuple)
        self.assertIs(type(lines[0][2]), tuple)
        self.assertIs(type(lines[0][2][1]), tuple)
        self.assertIs(type(lines[0][2][1][1]), tuple)
        self.assertIs(type(lines[0][4][2]), tuple)

    def test_the_text_is_limited(self):
        self.assertEqual(parse("show 1;" + " " * 11993), [("show", num(1, 5), None, 0)])
        with self.assertRaises(Oversized) as caught:
            parse("show 1;" + " " * 11994)
        self.assertEqual(caught.exception.limit, "text")


class LineTest(ParserTest):
    """Points 2.1 and 2.2: lines."""

    def test_no_line(self):
        self.assertEqual(parse(""), [])
        self.assertEqual(parse(" # nothing\n"), [])

    def test_base(self):
        self.assertEqual(parse(" base m;"), [("base", "m", 1)])
        self.refuses("base;", 4)
        self.refuses("base 1;", 5)
        self.refuses("base if;", 5)
        self.refuses("base m s;", 7)
        self.refuses("base m, s;", 6)
        self.ends_too_early("base")
        self.ends_too_early("base m")

    def test_unit(self):
        self.assertEqual(parse("\nunit km = 1000 [m];"),
                         [("unit", "km", (1000, 1), (("m", 1, 17),), 1)])
        self.assertEqual(parse("unit a = 0.30 [];"), [("unit", "a", (30, 100), (), 0)])
        self.assertEqual(parse("unit kmh=1.0[km h^-1];"),
                         [("unit", "kmh", (10, 10), (("km", 1, 13), ("h", -1, 16)), 0)])

    def test_wrong_units(self):
        self.refuses("unit = 1 [m];", 5)
        self.refuses("unit k 1 [m];", 7)
        self.refuses("unit k == 1 [m];", 7)
        self.refuses("unit k = [m];", 9)
        self.refuses("unit k = m [m];", 9)
        self.refuses("unit k = -1 [m];", 9)
        self.refuses("unit k = 1;", 10)
        self.refuses("unit k = 1 m;", 11)
        self.refuses("unit k = 1 * 2 [m];", 11)
        self.refuses("unit k = 1 [m] [s];", 15)
        for text in ("unit", "unit k", "unit k =", "unit k = 1", "unit k = 1 [", "unit k = 1 [m", "unit k = 1 [m] "):
            self.ends_too_early(text)

    def test_functions(self):
        self.assertEqual(parse("fun f() = 1;"), [("fun", "f", (), None, num(1, 10), 0)])
        self.assertEqual(parse(" fun f(a) = a;"), [("fun", "f", (("a", None),), None, var("a", 12), 1)])
        self.assertEqual(parse("fun f(a, b, c) = b;"),
                         [("fun", "f", (("a", None), ("b", None), ("c", None)), None, var("b", 17), 0)])

    def test_functions_that_tell_products(self):
        self.assertEqual(parse("fun f(a: [m], b, c: []): [s^2] = b;"), [
            ("fun", "f", (("a", (("m", 1, 10),)), ("b", None), ("c", ())), (("s", 2, 26),), var("b", 33), 0),
        ])
        self.assertEqual(parse("fun f(): [] = 1;"), [("fun", "f", (), (), num(1, 14), 0)])

    def test_wrong_functions(self):
        self.refuses("fun (a) = a;", 4)
        self.refuses("fun f = 1;", 6)
        self.refuses("fun f(1) = 1;", 6)
        self.refuses("fun f(,) = 1;", 6)
        self.refuses("fun f(a,) = 1;", 8)
        self.refuses("fun f(a b) = 1;", 8)
        self.refuses("fun f(a; b) = 1;", 7)
        self.refuses("fun f(a:) = 1;", 8)
        self.refuses("fun f(a: m) = 1;", 9)
        self.refuses("fun f(a [m]) = 1;", 8)
        self.refuses("fun f((a)) = 1;", 6)
        self.refuses("fun f(a): m = 1;", 10)
        self.refuses("fun f(a) [m] = 1;", 9)
        self.refuses("fun f(a) 1;", 9)
        self.refuses("fun f(a) = ;", 11)
        self.refuses("fun f(a) = a in [m];", 13)
        for text in ("fun", "fun f", "fun f(", "fun f(a", "fun f(a,", "fun f(a:", "fun f(a: [", "fun f()",
                     "fun f():", "fun f(): []", "fun f() =", "fun f() = 1 "):
            self.ends_too_early(text)

    def test_shows(self):
        self.assertEqual(parse("show 1;"), [("show", num(1, 5), None, 0)])
        self.assertEqual(parse("show 1 in [];"), [("show", num(1, 5), (), 0)])
        self.assertEqual(parse("show x in [km h^-1];"),
                         [("show", var("x", 5), (("km", 1, 11), ("h", -1, 14)), 0)])
        self.assertEqual(parse("show 1 [m] in [s];"),
                         [("show", ("number", (1, 1), (("m", 1, 8),), 5), (("s", 1, 15),), 0)])

    def test_the_in_of_a_show_and_of_a_let(self):
        self.assertEqual(parse("show let x = 1 in x in [m];"),
                         [("show", ("let", "x", num(1, 13), var("x", 18), 5), (("m", 1, 24),), 0)])
        self.refuses("show let x = 1 in [m];", 18)

    def test_wrong_shows(self):
        self.refuses("show;", 4)
        self.refuses("show 1 in;", 9)
        self.refuses("show 1 in m;", 10)
        self.refuses("show 1 in 2 [m];", 10)
        self.refuses("show 1 in [m] in [m];", 14)
        self.refuses("show 1 2;", 7)
        self.refuses("show 1, 2;", 6)
        self.refuses("show 1 show 2;", 7)
        for text in ("show", "show ", "show 1", "show 1 in", "show 1 in [m]  # end", "show 1\n"):
            self.ends_too_early(text)

    def test_lines_in_their_order(self):
        text = "show 1;\nbase m; fun f() = 1;unit k = 2 [m];base m;"
        self.assertEqual([line[0] for line in parse(text)], ["show", "base", "fun", "unit", "base"])
        self.assertEqual([line[-1] for line in parse(text)], [0, 8, 16, 28, 43])

    def test_wrong_beginnings(self):
        for text in (";", "m;", "1;", "in;", "let x = 1 in x;", "if;", "(1);", "= 1;", "[m];", "true;"):
            self.refuses(text, 0)
            self.refuses("base m; " + text, 8)
        self.refuses("base m;;", 7)


class ProductTest(ParserTest):
    """Points 2.1 and 2.2: products and powers."""

    def products(self, text):
        return parse("show 1 in " + text + ";")[0][2]

    def test_products(self):
        self.assertEqual(self.products("[]"), ())
        self.assertEqual(self.products("[ m ]"), (("m", 1, 12),))
        self.assertEqual(self.products("[m m m^2]"), (("m", 1, 11), ("m", 1, 13), ("m", 2, 15)))
        self.assertEqual(self.products("[z^2 a^-3  b]"), (("z", 2, 11), ("a", -3, 15), ("b", 1, 21)))
        self.assertEqual(self.products("[m ^ - 2]"), (("m", -2, 11),))

    def test_powers_up_to_9(self):
        for power in range(10):
            self.assertEqual(self.products(f"[m^{power}]"), (("m", power, 11),))
            self.assertEqual(self.products(f"[m^-{power}]"), (("m", -power, 11),))
        self.assertEqual(self.products("[m^009]"), (("m", 9, 11),))

    def test_powers_beyond_9(self):
        self.refuses("show 1 in [m^10];", 13)
        self.refuses("show 1 in [m^-10];", 14)
        self.refuses("show 1 in [m^999999];", 13)
        self.refuses("show 1 in [a m^ - 10];", 18)

    def test_powers_with_a_point(self):
        self.refuses("show 1 in [m^1.0];", 13)
        self.refuses("show 1 in [m^-2.5];", 14)
        self.refuses("show 1 in [m^0.5];", 13)

    def test_wrong_products(self):
        self.refuses("show 1 in [1];", 11)
        self.refuses("show 1 in [m, s];", 12)
        self.refuses("show 1 in [m*s];", 12)
        self.refuses("show 1 in [m/s];", 12)
        self.refuses("show 1 in [^2];", 11)
        self.refuses("show 1 in [m^];", 13)
        self.refuses("show 1 in [m^s];", 13)
        self.refuses("show 1 in [m^+2];", 13)
        self.refuses("show 1 in [m^--2];", 14)
        self.refuses("show 1 in [m^2^2];", 14)
        self.refuses("show 1 in [m^2 3];", 15)
        self.refuses("show 1 in [m 2];", 13)
        self.refuses("show 1 in [m^(2)];", 13)
        self.refuses("show 1 in [(m)];", 11)
        self.refuses("show 1 in [[m]];", 11)
        self.refuses("show 1 in [if];", 11)
        self.refuses("show 1 in [m;", 12)
        for text in ("show 1 in [m^", "show 1 in [m^-", "show 1 in [m^2", "show 1 in [m s "):
            self.ends_too_early(text)


class PrimaryTest(ParserTest):
    """Points 2.1 and 2.3: numbers, truth values, names, calls, iterate."""

    def test_numbers(self):
        self.reads("show 0.50", ("number", (50, 100), (), 5))
        self.reads("show  1 [ ]", ("number", (1, 1), (), 6))
        self.reads("show 1[m s^-2]", ("number", (1, 1), (("m", 1, 7), ("s", -2, 9)), 5))
        self.refuses("show -1;", 5)
        self.refuses("show 1 m;", 7)
        self.refuses("show 1 [m] [s];", 11)
        self.refuses("show x [m];", 7)
        self.refuses("show (1) [m];", 9)
        self.refuses("show f(1) [m];", 10)

    def test_truth_values(self):
        self.reads("show true", ("bool", True))
        self.reads("show false", ("bool", False))
        self.assertIs(parse("show true;")[0][1][1], True)
        self.assertIs(parse("show false;")[0][1][1], False)
        self.refuses("show true [m];", 10)
        self.refuses("show true();", 9)

    def test_names(self):
        self.reads("show  x", var("x", 6))
        self.reads("show (x)", var("x", 6))
        self.reads("show ( ((x)) )", var("x", 9))

    def test_calls(self):
        self.reads("show f()", ("call", "f", (), 5))
        self.reads("show  f ( )", ("call", "f", (), 6))
        self.reads("show f(x)", ("call", "f", (var("x", 7),), 5))
        self.reads("show f(x, 1, g(y))",
                   ("call", "f", (var("x", 7), num(1, 10), ("call", "g", (var("y", 15),), 13)), 5))
        self.reads("show f(if x then y else z, let a = x in a)", ("call", "f", (
            ("if", var("x", 10), var("y", 17), var("z", 24), 7),
            ("let", "a", var("x", 35), var("a", 40), 27)), 5))

    def test_wrong_calls(self):
        self.refuses("show f(;", 7)
        self.refuses("show f(,);", 7)
        self.refuses("show f(x,);", 9)
        self.refuses("show f(x,,y);", 9)
        self.refuses("show f(x y);", 9)
        self.refuses("show f(x;", 8)
        self.refuses("show f(x];", 8)
        self.refuses("show f()();", 8)
        self.refuses("show (f)(x);", 8)
        self.refuses("show 1(x);", 6)
        for text in ("show f(", "show f(x", "show f(x,", "show f(x)"):
            self.ends_too_early(text)

    def test_parentheses(self):
        self.reads("show (if x then y else z)", ("if", var("x", 9), var("y", 16), var("z", 23), 6))
        self.refuses("show ();", 6)
        self.refuses("show (x;", 7)
        self.refuses("show (x, y);", 7)
        self.refuses("show x);", 6)
        self.refuses("show (x]);", 7)
        self.ends_too_early("show (")
        self.ends_too_early("show (x")

    def test_iterate(self):
        self.reads("show iterate f 3 from x", ("iterate", "f", 3, var("x", 22), 5))
        self.reads("show  iterate f 0 from 1 [m]", ("iterate", "f", 0, ("number", (1, 1), (("m", 1, 26),), 23), 6))
        self.reads("show iterate f 1 from iterate g 2 from (x)",
                   ("iterate", "f", 1, ("iterate", "g", 2, var("x", 40), 22), 5))
        self.reads("show iterate f 1 from g(x)", ("iterate", "f", 1, ("call", "g", (var("x", 24),), 22), 5))

    def test_iterate_takes_a_primary(self):
        self.reads("show iterate f 3 from x ^ 2", ("power", ("iterate", "f", 3, var("x", 22), 5), 2, 24))
        self.reads("show iterate f 3 from x * y", ("mul", ("iterate", "f", 3, var("x", 22), 5), var("y", 26), 24))
        self.refuses("show iterate f 3 from not x;", 22)
        self.refuses("show iterate f 3 from if x then y else z;", 22)

    def test_counts_up_to_20(self):
        for count in range(21):
            self.assertEqual(parse(f"show iterate f {count} from x;")[0][1][:3], ("iterate", "f", count))
        self.assertEqual(parse("show iterate f 0020 from x;")[0][1][2], 20)
        self.refuses("show iterate f 21 from x;", 15)
        self.refuses("show iterate f 999999 from x;", 15)

    def test_counts_with_a_point(self):
        self.refuses("show iterate f 2.0 from x;", 15)
        self.refuses("show iterate f 0.5 from x;", 15)

    def test_wrong_iterates(self):
        self.refuses("show iterate 3 from x;", 13)
        self.refuses("show iterate f from x;", 15)
        self.refuses("show iterate f -3 from x;", 15)
        self.refuses("show iterate f n from x;", 15)
        self.refuses("show iterate f (3) from x;", 15)
        self.refuses("show iterate f 3 x;", 17)
        self.refuses("show iterate f 3 in x;", 17)
        self.refuses("show iterate f 3 from;", 21)
        self.refuses("show iterate f() 3 from x;", 14)
        for text in ("show iterate", "show iterate f", "show iterate f 3", "show iterate f 3 from",
                     "show iterate f 3 from x"):
            self.ends_too_early(text)

    def test_what_is_no_primary(self):
        for text in (";", "+", "*", "^", "<", "=", "[m]", ")", "and", "in", "then", "from", "base", "unit", "show"):
            self.refuses("show " + text + ";", 5)


class OperationTest(ParserTest):
    """Points 2.1 and 2.3: operators, not, if and let."""

    def test_each_operator(self):
        for sign, name in (("+", "add"), ("-", "sub"), ("*", "mul"), ("/", "div"), ("<", "lt"), ("<=", "le"),
                           ("==", "eq"), ("and", "and"), ("or", "or")):
            self.reads(f"show  x  {sign} y", (name, var("x", 6), var("y", 10 + len(sign)), 9))

    def test_repeated_operators_associate_to_the_left(self):
        for one, two in (("+", "+"), ("-", "-"), ("+", "-"), ("-", "+"), ("*", "*"), ("/", "/"), ("*", "/"),
                         ("/", "*"), ("and", "and"), ("or", "or")):
            self.same(f"a {one} b {two} c", f"(a {one} b) {two} c")
            self.same(f"a {one} b {two} c {one} d", f"((a {one} b) {two} c) {one} d")
        self.reads("show a-b-c", ("sub", ("sub", var("a", 5), var("b", 7), 6), var("c", 9), 8))

    def test_parentheses_bind(self):
        self.reads("show a-(b-c)", ("sub", var("a", 5), ("sub", var("b", 8), var("c", 10), 9), 6))
        self.reads("show (a+b)*c", ("mul", ("add", var("a", 6), var("b", 8), 7), var("c", 11), 10))

    def test_what_binds_tighter(self):
        self.same("a or b and c", "a or (b and c)")
        self.same("a and b or c", "(a and b) or c")
        self.same("a or b and c or d", "(a or (b and c)) or d")
        self.same("a and not b and c", "(a and (not b)) and c")
        self.same("a < b and c <= d", "(a < b) and (c <= d)")
        self.same("a + b < c + d", "(a + b) < (c + d)")
        self.same("a * b == c / d", "(a * b) == (c / d)")
        self.same("a + b * c", "a + (b * c)")
        self.same("a * b + c", "(a * b) + c")
        self.same("a - b / c - d", "(a - (b / c)) - d")
        self.same("a * b ^ 2", "a * (b ^ 2)")
        self.same("a ^ 2 * b", "(a ^ 2) * b")
        self.same("a ^ 2 + b ^ 3 < c", "((a ^ 2) + (b ^ 3)) < c")

    def test_powers(self):
        self.reads("show x^2", ("power", var("x", 5), 2, 6))
        self.reads("show x ^ -2", ("power", var("x", 5), -2, 7))
        self.reads("show x^2^-3", ("power", ("power", var("x", 5), 2, 6), -3, 8))
        self.reads("show 2 [m]^2", ("power", ("number", (2, 1), (("m", 1, 8),), 5), 2, 10))
        self.reads("show true^1", ("power", ("bool", True), 1, 9))
        for power in range(10):
            self.reads(f"show x^{power}", ("power", var("x", 5), power, 6))
            self.reads(f"show x^-{power}", ("power", var("x", 5), -power, 6))

    def test_wrong_powers(self):
        self.refuses("show x^10;", 7)
        self.refuses("show x^-10;", 8)
        self.refuses("show x^1.0;", 7)
        self.refuses("show x^-0.5;", 8)
        self.refuses("show x^y;", 7)
        self.refuses("show x^(2);", 7)
        self.refuses("show x^+2;", 7)
        self.refuses("show x^--2;", 8)
        self.refuses("show x^;", 7)
        self.refuses("show x^2 [m];", 9)
        self.refuses("show x^2(3);", 8)
        self.ends_too_early("show x^")
        self.ends_too_early("show x^-")

    def test_not(self):
        self.reads("show not x", ("not", var("x", 9), 5))
        self.reads("show not not x", ("not", ("not", var("x", 13), 9), 5))
        self.reads("show not x < y", ("not", ("lt", var("x", 9), var("y", 13), 11), 5))
        self.same("not a and b", "(not a) and b")
        self.same("not a or b", "(not a) or b")
        self.refuses("show not;", 8)
        self.refuses("show x not y;", 7)
        self.refuses("show x + not y;", 9)
        self.refuses("show x < not y;", 9)
        self.refuses("show not if x then y else z;", 9)
        self.ends_too_early("show not")

    def test_a_comparison_stands_alone(self):
        for one in ("<", "<=", "=="):
            for two in ("<", "<=", "=="):
                self.refuses(f"show a {one} b {two} c;", 10 + len(one))
        self.same("(a < b) == c", "((a < b)) == c")
        self.refuses("show a = b;", 7)
        self.refuses("show a < = b;", 9)

    def test_wrong_operations(self):
        for sign in ("+", "-", "*", "/", "<", "<=", "==", "and", "or"):
            self.refuses(f"show {sign} x;", 5)
            self.refuses(f"show x {sign};", 7 + len(sign))
            self.refuses(f"show x {sign} if a then b else c;", 8 + len(sign))
            self.refuses(f"show x {sign} let a = b in c;", 8 + len(sign))
            self.refuses(f"show x {sign} * y;", 8 + len(sign))
            self.ends_too_early(f"show x {sign}")

    def test_if(self):
        self.reads("show if x then y else z", ("if", var("x", 8), var("y", 15), var("z", 22), 5))
        self.same("if a then b else c + d", "if a then b else (c + d)")
        self.same("if a or b then c or d else e or f", "if (a or b) then (c or d) else (e or f)")
        self.same("if a then b else if c then d else e", "if a then b else (if c then d else e)")
        self.same("if a then if b then c else d else e", "if a then (if b then c else d) else e")
        self.same("if if a then b else c then d else e", "if (if a then b else c) then d else e")
        self.same("if a then let x = b in c else d", "if a then (let x = b in c) else d")

    def test_wrong_ifs(self):
        self.refuses("show if then y else z;", 8)
        self.refuses("show if x y else z;", 10)
        self.refuses("show if x then else z;", 15)
        self.refuses("show if x then y;", 16)
        self.refuses("show if x else y then z;", 10)
        self.refuses("show if x then y else;", 21)
        self.refuses("show if x then y else z else a;", 24)
        for text in ("show if", "show if x", "show if x then", "show if x then y", "show if x then y else",
                     "show if x then y else z"):
            self.ends_too_early(text)

    def test_let(self):
        self.reads("show let a = x in y", ("let", "a", var("x", 13), var("y", 18), 5))
        self.same("let a = b in c + d", "let a = b in (c + d)")
        self.same("let a = b or c in d or e", "let a = (b or c) in (d or e)")
        self.same("let a = let b = c in d in e", "let a = (let b = c in d) in e")
        self.same("let a = b in let c = d in e", "let a = b in (let c = d in e)")
        self.same("let a = if b then c else d in if e then f else g",
                  "let a = (if b then c else d) in (if e then f else g)")

    def test_wrong_lets(self):
        self.refuses("show let = x in y;", 9)
        self.refuses("show let 1 = x in y;", 9)
        self.refuses("show let let = x in y;", 9)
        self.refuses("show let a x in y;", 11)
        self.refuses("show let a == x in y;", 11)
        self.refuses("show let a(b) = x in y;", 10)
        self.refuses("show let a = in y;", 13)
        self.refuses("show let a = x y;", 15)
        self.refuses("show let a = x;", 14)
        self.refuses("show let a = x in;", 17)
        for text in ("show let", "show let a", "show let a =", "show let a = x", "show let a = x in"):
            self.ends_too_early(text)


PROGRAM = (
    "base m; base s; unit km = 1000 [m]; unit kmh = 3.6 [km^-1 s^2];\n"
    "fun f(a, b: [m s]): [] = if not a < b and true then let c = f(a, 1.5 [m]) ^ -2 in c else (b - 0) / a;\n"
    "show g() == 2 or h(x) + 1 * x <= 4 in [kmh]; show false; # the end"
)


class OrderTest(ParserTest):
    """Point 2.4."""

    def test_the_whole_text_is_split_first(self):
        self.refuses("then $", 5)
        self.refuses("show 1 2; show x^10; base 1a;", 26)
        self.refuses("show " + "(" * 30 + "; $", 37)

    def test_the_first_token_that_does_not_fit(self):
        self.refuses("show x^10 2;", 7)
        self.refuses("show x 2 ^10;", 7)
        self.refuses("show iterate f 2.5 x;", 15)
        self.refuses("base m; base; show;", 12)

    def test_each_beginning_of_a_program(self):
        parts = cut(PROGRAM)
        ends = [index for index, (value, at) in enumerate(parts) if value == ";"]
        for count in range(len(parts)):
            text = PROGRAM[:parts[count][1]]
            if count == 0 or count - 1 in ends:
                self.assertEqual(len(parse(text)), sum(end < count for end in ends))
            else:
                self.ends_too_early(text)
                self.ends_too_early(text + " # more\n ")

    def test_a_token_that_fits_nowhere(self):
        for value, at in cut(PROGRAM):
            self.refuses(PROGRAM[:at] + " from " + PROGRAM[at + len(value):], at + 1)


def cut(text):
    """The values of the tokens of a text as they are written, and their indexes."""
    places = [at for kind, value, at in tokens(text)] + [text.index("#")]
    return [(text[at:behind].strip(), at) for at, behind in zip(places, places[1:])]


if __name__ == "__main__":
    unittest.main()
