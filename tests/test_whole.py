"""What the document promises over every program."""
import fractions as library
import random
import re
import unittest

from alnage.compiler import compile_program, scale
from alnage.errors import Clashing, Mixed, Unfit
from alnage.infer import check, told, witness
from alnage.judge import first_unfit, judge
from alnage.machine import run_image
from alnage.meaning import run
from alnage.parser import parse
from maker import HEAD, Maker, times
from oracle import Oracle, plainly
from programs import total

FACTORS = (
    {}, {"m": (3, 4)}, {"m": (1000, 1), "s": (2, 6), "g": (999, 7)}, {"s": (60, 1)}, {"g": (1, 1000), "m": (10, 1)},
)
PROGRAMS = 250


class Unlike(Exception):
    """Dimensions that do not fit."""


class Dimensions:
    """The dimensions of a text's expressions, found by going through each call with the dimensions of its arguments."""

    def __init__(self, text):
        self.units = check(HEAD).units
        self.functions = {line[1]: line for line in parse(text) if line[0] == "fun"}

    def product(self, product):
        return self.units.product(product)[1]

    def call(self, name, dimensions):
        _, _, parameters, product, e, _ = self.functions[name]
        for (_, told_product), dimension in zip(parameters, dimensions):
            if told_product is not None:
                self.ask(self.product(told_product), dimension)
        names = {parameter: dimension for (parameter, _), dimension in zip(parameters, dimensions)}
        result = self.find(e, names)
        if product is not None:
            self.ask(result, self.product(product))
        return result

    def ask(self, one, two):
        if one != two:
            raise Unlike

    def find(self, e, names):
        """The dimension of an expression; None for a truth value."""
        kind = e[0]
        if kind in ("number", "bool", "var"):
            return {"number": lambda: self.product(e[2]), "bool": lambda: None, "var": lambda: names[e[1]]}[kind]()
        if kind == "call":
            return self.call(e[1], [self.find(argument, names) for argument in e[2]])
        if kind == "let":
            return self.find(e[3], {**names, e[1]: self.find(e[2], names)})
        if kind == "iterate":
            start = self.find(e[3], names)
            self.ask(self.call(e[1], [start]), start)
            return start
        parts = [self.find(part, names) for part in e[1:4] if isinstance(part, tuple)]
        if kind == "power":
            return times({}, parts[0], e[2])
        if kind in ("mul", "div"):
            return times(parts[0], parts[1], 1 if kind == "mul" else -1)
        if kind in ("and", "or", "not"):
            return None
        self.ask(parts[-2], parts[-1])
        return parts[-1] if kind in ("add", "sub", "if") else None


def scaled(trace, factors):
    """What a trace of the meaning is on a machine with these factors."""
    found = []
    for entry in plainly(trace):
        if entry[0] == "plain":
            dimension = trace[len(found)][2]
            number = library.Fraction(*entry[1]) * library.Fraction(*scale(dimension, factors))
            entry = ("plain", (number.numerator, number.denominator))
        found.append(entry)
    return found


def altered(text, rand):
    """The text with another product in the place of one of its own, or another operator."""
    starts = [found.start() for found in re.finditer(r"\[| [*/] ", text) if found.start() > len(HEAD)]
    if not starts:
        return text
    start = rand.choice(starts)
    if text[start] != "[":
        return text[:start] + rand.choice((" * ", " / ", " + ", " - ")) + text[start + 3:]
    end = text.index("]", start)
    return text[:start] + rand.choice(("[", "[m", "[m s", "[m^2", "[g^-1", "[s^3 m^6")) + text[end:]


class LetByTest(unittest.TestCase):
    """Programs that are let by."""

    @classmethod
    def setUpClass(cls):
        cls.texts = [Maker(seed).program() for seed in range(PROGRAMS)]

    def test_all_forms_occur(self):
        kinds, ends, entries = set(), set(), set()

        def gather(e):
            if isinstance(e, tuple):
                kinds.add(e[0] if e and isinstance(e[0], str) else None)
                for part in e:
                    gather(part)

        for text in self.texts:
            for line in parse(text):
                gather(line)
            trace, end = run(check(text))
            ends.add(end)
            entries.update(entry[0] for entry in trace)
        self.assertLessEqual({"base", "unit", "fun", "show", "number", "bool", "var", "call", "iterate", "power", "add",
                              "sub", "mul", "div", "lt", "le", "eq", "and", "or", "not", "if", "let"}, kinds)
        self.assertLessEqual({("done",), ("halted", "zero"), ("halted", "heavy")}, ends)
        self.assertEqual(entries, {"branch", "truth", "plain", "shown"})

    def test_no_unlike_quantities_meet(self):
        for seed, text in enumerate(self.texts):
            with self.subTest(seed):
                oracle = Oracle(text)
                self.assertEqual(run(check(text)), (oracle.trace, oracle.end))

    def test_what_is_shown_has_the_dimension_that_was_found(self):
        for seed, text in enumerate(self.texts):
            with self.subTest(seed):
                program = check(text)
                shown = [entry for entry in run(program)[0] if entry[0] != "branch"]
                for entry, (_, product, dimension) in zip(shown, program.shows):
                    if dimension is None:
                        self.assertEqual(entry[0], "truth")
                    else:
                        self.assertEqual(entry[0], "plain" if product is None else "shown")
                        self.assertEqual(list(entry[2].items()), list(dimension.items()))

    def test_the_machine_shows_the_same(self):
        for seed, text in enumerate(self.texts):
            with self.subTest(seed):
                program = check(text)
                trace, end = run(program)
                self.assertEqual(run_image(compile_program(program)), (plainly(trace), end))

    def test_smaller_base_units_scale_each_number_as_its_dimension_tells(self):
        for seed, text in enumerate(self.texts):
            program = check(text)
            trace, end = run(program)
            for factors in FACTORS:
                with self.subTest(seed=seed, factors=factors):
                    found = run_image(compile_program(program, factors=factors))
                    self.assertEqual(found, (scaled(trace, factors), end))
                    oracle = Oracle(text, {base: library.Fraction(*factor) for base, factor in factors.items()})
                    self.assertEqual(found, (plainly(oracle.trace), oracle.end))

    def test_there_is_no_paper(self):
        for seed, text in enumerate(self.texts):
            with self.subTest(seed):
                self.assertIsNone(first_unfit(text))

    def test_products_that_are_not_told_change_nothing_that_runs(self):
        for seed, text in enumerate(self.texts):
            # Without the products of parameters and results, functions are for more dimensions, and do the same.
            without = re.sub(r": \[[^\]]*\]", lambda found: " " * len(found[0]), text)
            with self.subTest(seed):
                self.assertEqual(run(check(without)), run(check(text)))
                self.assertEqual(compile_program(check(without)), compile_program(check(text)))

    def test_schemes_tell_just_the_dimensions_that_fit(self):
        rand, counts = random.Random(3), {True: 0, False: 0}
        for seed, text in enumerate(self.texts[:120]):
            program, dimensions = check(text), Dimensions(text)
            for name, scheme in program.schemes.items():
                count, forms, result = told(scheme)
                for _ in range(6):
                    unknowns = [{base: rand.choice((-1, 1, 2)) for base in rand.sample("msg", rand.randint(0, 3))}
                                for _ in range(count)]
                    parameters = [total(form, unknowns) for form in forms]
                    if parameters and rand.random() < 0.5:
                        place = rand.randrange(len(parameters))
                        parameters[place] = times(parameters[place], {rand.choice("msg"): rand.choice((-2, -1, 1, 2))})
                    try:
                        found, fits = dimensions.call(name, parameters), True
                    except Unlike:
                        found, fits = None if result is None else {}, False
                    counts[fits] += 1
                    with self.subTest(seed=seed, name=name, parameters=parameters):
                        given = witness(scheme, ["m", "s", "g"], parameters, found)
                        self.assertEqual(given is not None, fits)
        self.assertGreater(min(counts.values()), 100)


class OtherProgramsTest(unittest.TestCase):
    """Programs that may not be let by."""

    def test_either_a_paper_is_taken_or_all_holds(self):
        rand, counts = random.Random(4), {"unfit": 0, "fit": 0}
        for seed in range(PROGRAMS):
            text = altered(Maker(seed).program(), rand)
            with self.subTest(text):
                try:
                    program = check(text)
                except Unfit as unfit:
                    counts["unfit"] += 1
                    place, paper = first_unfit(text)
                    self.assertEqual(paper, unfit.paper)
                    self.assertIsNone(judge(text, place, paper))
                    line = parse(text)[place]
                    self.assertEqual(unfit.name, line[1] if line[0] == "fun" else "show")
                    self.no_dimensions_fit(text, line, rand)
                    continue
                except Clashing:
                    continue
                counts["fit"] += 1
                self.assertIsNone(first_unfit(text))
                trace, end = run(program)
                oracle = Oracle(text)
                self.assertEqual((trace, end), (oracle.trace, oracle.end))
                for factors in FACTORS:
                    self.assertEqual(run_image(compile_program(program, factors=factors)),
                                     (scaled(trace, factors), end))
        self.assertGreater(min(counts.values()), 50)

    def no_dimensions_fit(self, text, line, rand):
        dimensions = Dimensions(text)
        if line[0] == "show":
            with self.assertRaises(Unlike):
                found = dimensions.find(line[1], {})
                if line[2] is not None:
                    dimensions.ask(found, dimensions.product(line[2]))
            return
        for _ in range(20):
            parameters = [times({}, {base: rand.choice((-2, -1, 0, 0, 1, 2)) for base in "msg"}) for _ in line[2]]
            with self.assertRaises(Unlike):
                dimensions.call(line[1], parameters)

    def test_a_program_that_would_mix_is_refused(self):
        for e in ("1 [m] + 1", "1 [m] - 1 [s]", "1 [m] < 1 [s]", "1 [m] <= 1", "1 [m] == 1 [m^2]"):
            text = f"base m; base s; show {e};"
            with self.subTest(text):
                with self.assertRaises(Unfit):
                    check(text)
                place, paper = first_unfit(text)
                self.assertIsNone(judge(text, place, paper))
                program = check("base m; base s;")
                program.shows.append((parse(text)[2][1], None, None))
                with self.assertRaises(Mixed):
                    run(program)


class LongProgramTest(unittest.TestCase):
    """Programs that reach what the document limits."""

    def test_six_base_units_and_nine_functions(self):
        text = "".join(f"base {name}; " for name in "abcdef") + "fun f1(x) = x * 1 [a b c d e f]; "
        text += "".join(f"fun f{n}(x) = f{n - 1}(x) * {n}; " for n in range(2, 10))
        text += "show f9(1 [f^-1]) in [a b c d e];"
        program = check(text)
        dimension = {base: 1 for base in "abcde"}
        self.assertEqual(run(program), ([("shown", (362880, 1), dimension)], ("done",)))
        factors = {base: (place + 2, 7) for place, base in enumerate("abcdef")}
        self.assertEqual(run_image(compile_program(program, factors=factors)), ([("shown", (362880, 1))], ("done",)))

    def test_great_exponents(self):
        text = "base m; base s; show 1 [m^9 m^9 m^9 m^9 m^4 s^-9 s^-9 s^-9 s^-9 s^-4] ^ 9 ^ 6;"
        program = check(text)
        self.assertEqual(run(program), ([("plain", (1, 1), {"m": 2160, "s": -2160})], ("done",)))
        found = run_image(compile_program(program, factors={"m": (1000, 999), "s": (1, 1000)}))
        self.assertEqual(found, ([("plain", (1000 ** 4320, 999 ** 2160))], ("done",)))

    def test_long_texts(self):
        text = "base m; fun f(x, y) = x * y + x * y; "
        text += "show f(f(1 [m], 2), 3) in [m];\n" * ((12000 - len(text)) // 31)
        program = check(text)
        # Each show makes two calls.
        self.assertEqual(run(program), ([("shown", (24, 1), {"m": 1})] * 150, ("halted", "weary")))
        self.assertEqual(run_image(compile_program(program, factors={"m": (2, 3)})),
                         ([("shown", (24, 1))] * 150, ("halted", "weary")))


if __name__ == "__main__":
    unittest.main()
