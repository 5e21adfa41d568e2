"""Point 4.5, for alnage/judge.py: papers are judged, and the first line that no dimensions fit is found."""
import copy
import random
import unittest

from alnage import judge as module
from alnage.errors import BadPaper, Clashing, Malformed, Mistaken, Oversized, Unfit, Unknown
from alnage.infer import check
from alnage.judge import first_unfit, judge
from maker import HEAD, Maker
from programs import rows_of
from test_linear import shows

M = "base m; base s; "
# Texts whose last line no dimensions fit.
UNFIT = (
    M + "show 1 [m] + 1;",
    M + "show 1 [m] < 1 [s];",
    M + "show 1 [m s] in [m];",
    M + "show 1 [m s^-2] in [m^3 s^4];",
    M + "fun f(x) = x ^ 2 + 1 [m];",
    M + "fun f(x, y) = x ^ 6 * y ^ 4 == 1 [s];",
    M + "fun f(x, y) = x * y == 1 [m] and x == y;",
    M + "fun f(x: [m], y: [s]) = if x < y then x else y;",
    M + "fun f(x): [m^3] = x * x;",
    M + "fun f(x) = x + x * x; fun g(y) = f(y) + 1 [m];",
    M + "fun sq(x) = x * x; show iterate sq 3 from 1 [s];",
    M + "fun v(d: [m], t: [s]) = d / t; show v(1 [m], 2) * 1 + v(1 [s], 2 [m]);",
    M + "fun root(x, y) = if x == y * y then y else y; fun f(x) = root(x ^ 4 * 1 [m s], x);",
    M + "fun f(x, y) = x ^ 9 ^ 9 * y ^ 9 ^ 8 + 1 [s^-4];",
    M + "show true; fun f() = 1 [m]; unit km = 1000 [m]; show f() in [km]; show let x = f() in x * x + x;",
)


class EqualToAll:
    """A value that claims to be any other one."""

    def __eq__(self, other):
        return True

    def __hash__(self):
        return hash("m")


def last(text):
    """The index of the last line."""
    return text.count(";") - 1


def paper_of(text):
    try:
        check(text)
    except Unfit as unfit:
        return unfit.paper
    raise AssertionError(text)


class JudgeTest(unittest.TestCase):
    def taken(self, text, place, paper):
        with self.subTest(text=text, place=place, paper=paper):
            before = copy.deepcopy(paper)
            self.assertIsNone(judge(text, place, paper))
            self.assertEqual(paper, before)

    def refused(self, text, place, paper):
        with self.subTest(text=text, place=place, paper=paper):
            with self.assertRaises(BadPaper) as caught:
                judge(text, place, paper)
            self.assertEqual(list(vars(caught.exception)), ["why"])
            self.assertIs(type(caught.exception.why), str)

    def test_they_are_defined_here(self):
        self.assertEqual(judge.__module__, "alnage.judge")
        self.assertEqual(first_unfit.__module__, "alnage.judge")
        self.assertIs(module.judge, judge)

    def test_papers_of_check_are_taken(self):
        for text in UNFIT:
            self.taken(text, last(text), paper_of(text))

    def test_papers_of_first_unfit_are_taken(self):
        for text in UNFIT:
            place, paper = first_unfit(text)
            self.assertEqual((place, paper), (last(text), paper_of(text)))
            self.taken(text, place, paper)

    def test_lines_behind_do_not_matter(self):
        for text in UNFIT:
            paper = paper_of(text)
            for more in (" show 1 [m] + 1;", " base q; fun other(x) = x;", " show 1 [m] * unknown;", " base m;"):
                self.taken(text + more, last(text), paper)

    def test_papers_of_ones_own(self):
        text = M + "fun f(x, y) = x ^ 2 + 1 [m] * y ^ 4;"
        for weights in (((1, 2),), ((-1, 2),), ((3, 2),), ((500, 1000),), ((10 ** 50 + 1, 2),)):
            self.taken(text, 2, ("m", weights))
        text = M + "fun f(x) = x == 1 [m] and x == 1;"
        for weights in (((1, 2), (-1, 2)), ((1, 3), (-1, 3)), ((1, 3), (5, 3)), ((7, 10 ** 40), (-7, 10 ** 40))):
            self.taken(text, 2, ("m", weights))
        for weights in (((1, 2), (1, 3)), ((1, 1), (-1, 1)), ((0, 1), (0, 1)), ((1, 2), (0, 1)), ((2, 2), (-2, 2))):
            self.refused(text, 2, ("m", weights))
        text = M + "show (1 [m] + 1) * (1 [s] + 1) * (1 + 1);"
        self.taken(text, 2, ("m", ((1, 2), (0, 1), (0, 1))))
        self.taken(text, 2, ("m", ((1, 2), (1, 3), (5, 7))))
        self.taken(text, 2, ("s", ((0, 9), (1, 2), (0, 1))))
        self.refused(text, 2, ("m", ((0, 1), (1, 2), (0, 1))))
        self.refused(text, 2, ("s", ((1, 2), (0, 1), (1, 3))))
        self.refused(text, 2, ("m", ((2, 2), (1, 3), (5, 7))))

    def test_weights_that_are_not_in_lowest_terms(self):
        for text in UNFIT:
            base, weights = paper_of(text)
            for factor in (2, 3, 60, 10 ** 30):
                self.taken(text, last(text), (base, tuple((top * factor, bottom * factor) for top, bottom in weights)))

    def test_changed_weights(self):
        for text in UNFIT:
            base, weights = paper_of(text)
            rows, right = rows_of(text, base)
            for place, (top, bottom) in enumerate(weights):
                for other in ((top + 1, bottom), (top + bottom, bottom), (0, 1), (1, 1), (-top, bottom), (top, 7),
                              (top * 3, bottom), (top, bottom * 2), (bottom, bottom)):
                    changed = weights[:place] + (other,) + weights[place + 1:]
                    if shows(rows, right, list(changed)):
                        self.taken(text, last(text), (base, changed))
                    else:
                        self.refused(text, last(text), (base, changed))
            self.refused(text, last(text), (base, tuple((0, 1) for _ in weights)))
            self.refused(text, last(text), (base, tuple((5, 1) for _ in weights)))

    def test_another_base_unit(self):
        for text in UNFIT:
            base, weights = paper_of(text)
            for other in ("m", "s"):
                if shows(*rows_of(text, other), list(weights)):
                    self.taken(text, last(text), (other, weights))
                else:
                    self.refused(text, last(text), (other, weights))
        self.refused(UNFIT[0], 2, ("s", ((1, 2),)))
        for other in ("km", "f", "x", "", "M", "m ", "show", "later"):
            self.refused(M + "unit km = 1000 [m]; show 1 [km] + 1; base later;", 3, (other, ((1, 2),)))

    def test_another_length(self):
        for text in UNFIT:
            base, weights = paper_of(text)
            for other in (weights[:-1], weights + ((0, 1),), weights + weights, (), weights[1:], weights[:-1] + ((),)):
                self.refused(text, last(text), (base, other))

    def test_values_of_any_other_kind(self):
        text = M + "show (1 [m] + 1) * (1 + 1);"
        good = ((1, 2), (0, 1))
        self.taken(text, 2, ("m", good))
        for paper in (
                None, 0, 1, True, False, "", "m", "ms", b"m", 1.5, [], (), {}, {"m": good}, object(), tuple, set(),
                ["m", good], ("m",), ("m", good, ()), ("m", good, good), (good, "m"), (good,), good, ("m", "m"),
                (None, good), (0, good), (True, good), (b"m", good), (("m",), good), (["m"], good), ({}, good),
                (object(), good), (("m", good), ("m", good)), (("m", good),)):
            self.refused(text, 2, paper)
        self.refused(text, 2, (EqualToAll(), good))
        for weights in (
                None, 0, 1, True, "", "12", b"12", 0.5, [], {}, {(1, 2): (0, 1)}, list(good), {(1, 2), (0, 1)},
                (None, None), (1, 2), ("12", "01"), ([1, 2], [0, 1]), ([1, 2], (0, 1)), ((1, 2), [0, 1]),
                ((1, 2), None), ((1, 2), ()), ((1, 2), (0,)), ((1, 2), (0, 1, 1)), ((1, 2), 0), ((1, 2), "01"),
                ((1, 2), {0: 1, 1: 1}), iter(good), object()):
            self.refused(text, 2, ("m", weights))
        for weight in (
                (True, 2), (1, True), (1.0, 2), (1, 2.0), ("1", 2), (1, "2"), (None, 2), (1, None), ((1, 1), 2),
                (1, (2, 1)), ([], 2), (1, []), (1, 0), (0, 0), (1, -2), (-1, -2), (1, -1), (1.5, 1), (0.5, 1)):
            self.refused(text, 2, ("m", (weight, (0, 1))))
        for weight in ((False, 1), (0, True), (False, True), (0, 0), (0, -1), (0.0, 1), (0, 1.0), (None, 1), (0, None)):
            self.refused(text, 2, ("m", ((1, 2), weight)))

    def test_places_without_a_line(self):
        for text in UNFIT:
            paper = paper_of(text)
            for place in (-1, -2, -last(text), -last(text) - 1, last(text) + 1, last(text) + 2, 10 ** 30, -10 ** 30):
                self.refused(text, place, paper)
        self.refused("", 0, ("m", ()))
        self.refused("", -1, ("m", ()))

    def test_places_of_bases_and_units(self):
        text = M + "unit km = 1000 [m]; show 1 [m] + 1;"
        for place in (0, 1, 2):
            for paper in (("m", ((1, 2),)), ("m", ()), None):
                self.refused(text, place, paper)
        self.taken(text, 3, ("m", ((1, 2),)))

    def test_lines_that_dimensions_fit(self):
        text = M + ("fun f(x, y) = x ^ 2 + y ^ 3; fun g(x: [m]): [m] = x; show f(1 [m^3], 2 [m^2]); "
                    "show 1; show g(1 [m]) in [m]; show 1 [m] + 1 [m];")
        self.assertIsNone(first_unfit(text))
        rand = random.Random(1)
        for place, count in ((2, 1), (3, 2), (4, 2), (5, 0), (6, 2), (7, 1)):
            for base in ("m", "s"):
                rows, right = rows_of(";".join(text.split(";")[:place + 1]) + ";", base)
                self.assertEqual(len(rows), count)
                for _ in range(40):
                    weights = tuple((rand.randint(-9, 9), rand.choice((1, 2, 3, 4, 6, 12))) for _ in rows)
                    self.assertFalse(shows(rows, right, list(weights)))
                    self.refused(text, place, (base, weights))

    def test_the_line_is_judged_by_the_lines_before_it(self):
        one = M + "fun f(x) = x; show f(1 [m]) + 1;"
        two = M + "fun f(x) = x * x; show f(1 [m]) + 1;"
        three = M + "fun f(x: [s]) = x; show f(1 [m]) * 1 [s] + 1 [s s];"
        self.taken(one, 3, ("m", ((1, 2), (1, 2))))
        self.refused(two, 3, ("m", ((1, 2), (1, 2))))
        self.taken(two, 3, ("m", ((1, 3), (1, 6))))
        self.taken(three, 3, ("m", ((1, 2), (0, 1))))

    def test_papers_for_texts_by_chance(self):
        rand = random.Random(2)
        counts = {True: 0, False: 0}
        for seed in range(150):
            text = changed(Maker(seed).program(), rand)
            try:
                found = first_unfit(text)
            except Clashing:
                continue
            if found is None:
                check(text)
                continue
            place, paper = found
            self.assertEqual(paper, paper_of(text))
            self.taken(text, place, paper)
            upto = ";".join(text.split(";")[:place + 1]) + ";"
            for _ in range(6):
                base, weights = rand.choice("msg"), list(paper[1])
                for _ in range(rand.randint(0, 2)):
                    top, bottom = rand.choice(weights)
                    weights[rand.randrange(len(weights))] = rand.choice(
                        ((top * 3 + 1, bottom * 3), (top * 3, bottom * 3), (top + 1, bottom), (top * 5, bottom)))
                fits = shows(*rows_of(upto, base), weights)
                counts[fits] += 1
                self.assertEqual(is_taken(text, place, (base, tuple(weights))), fits)
        self.assertGreater(min(counts.values()), 50)


def is_taken(text, place, paper):
    """Whether a paper is taken."""
    try:
        judge(text, place, paper)
    except BadPaper:
        return False
    return True


def changed(text, rand):
    """The text with another product in the place of one of its own."""
    starts = [at for at, sign in enumerate(text) if sign == "[" and at > len(HEAD)]
    if not starts:
        return text
    start = rand.choice(starts)
    end = text.index("]", start)
    return text[:start] + rand.choice(("[", "[m", "[m s", "[m^2", "[g^-1", "[s^3 m^6")) + text[end:]


class FirstUnfitTest(unittest.TestCase):
    def test_programs_that_are_let_by(self):
        for text in ("", M, M + "show 1 [m];", M + "fun f(x, y) = x * y; show f(1 [m], 2 [s]) in [m s];", "show true;"):
            with self.subTest(text):
                self.assertIsNone(first_unfit(text))

    def test_a_line_in_the_middle(self):
        text = M + "fun f(x) = x; show f(1 [m]) + 1; show 1 [s] + 1; show 1 [s];"
        found = first_unfit(text)
        self.assertIs(type(found), tuple)
        self.assertEqual(found[0], 3)
        self.assertEqual(found[1], paper_of(text))
        self.assertIsNone(judge(text, *found))
        self.assertEqual(first_unfit("base m; fun f(x: [m]) = x + 1; show f(2); base m;")[0], 1)
        self.assertEqual(first_unfit("base m; fun f(x: [m]) = x; show 1; show f(2); show 2; show f(3);")[0], 3)

    def test_the_first_line(self):
        text = "fun f(x) = x; base m; show 1 [m] + 1;"
        self.assertEqual(first_unfit(text)[0], 2)

    def test_errors_behind_the_line_are_not_met(self):
        for more in (
                "base m;", "show unknown;", "show 1 [other];", "fun f(x, x) = x;", "show not 1;", "show 1 + 1 [m];"):
            with self.subTest(more):
                self.assertEqual(first_unfit(M + "show 1 [m] + 1; " + more)[0], 2)

    def test_other_errors_are_those_of_check(self):
        unfit = " show 1 [m] + 1;"
        for text, error in (
                (M + "base m;" + unfit, Clashing("m", 16)),
                (M + "show x;" + unfit, Unknown("x", 21)),
                (M + "show 1 [km];" + unfit, Unknown("km", 24)),
                (M + "show 1 + true;" + unfit, Mistaken(23, "number")),
                (M + "show not 1;" + unfit, Mistaken(21, "truth")),
                (M + "unit k = 0 [m];" + unfit, Mistaken(16, "zero")),
                (M + unfit + " show 1 +;", Malformed(41)),
                (M + unfit + " show 1 ?;", Malformed(40)),
                (M + unfit + " show 1", Malformed(39)),
                (M + unfit + "(" * 3, Malformed(32)),
                (M + unfit + " show " + "(" * 24 + "1", Oversized("depth")),
                (M + unfit + " " * 12000, Oversized("text"))):
            with self.subTest(text):
                for asked in (check, first_unfit):
                    with self.assertRaises(type(error)) as caught:
                        asked(text)
                    self.assertEqual(vars(caught.exception), vars(error))

    def test_an_error_in_the_line_that_does_not_fit(self):
        text = M + "show (1 [m] + 1) * unknown;"
        with self.assertRaises(Unknown):
            first_unfit(text)


if __name__ == "__main__":
    unittest.main()
