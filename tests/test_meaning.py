"""Points 5.1 to 5.3: the plain meaning of programs."""
import copy
import unittest

from alnage import meaning
from alnage.errors import Mixed
from alnage.infer import check
from alnage.meaning import run
from alnage.parser import parse
from runs import CALLS, DONE, HEAVY, SPEND_299, SPEND_300, SPENT, WEARY, WEIGHTS, ZERO, RunTest

M = {"m": 1}
UNITS = "base m; base s; unit km = 1000 [m]; unit h = 3600 [s]; "


class ValueTest(RunTest):
    """Point 5.1: numbers and their dimensions."""

    def test_numbers_are_told_in_base_units(self):
        self.shows("3", (3, 1))
        self.shows("0", (0, 1))
        self.shows("2.50", (5, 2))
        self.shows("0.0001", (1, 10000))
        self.shows("999999.9999", (9999999999, 10000))
        self.shows("2.5 [km]", (2500, 1), M, UNITS)
        self.shows("36 [km h^-1]", (10, 1), {"m": 1, "s": -1}, UNITS)
        self.shows("0 [km]", (0, 1), M, UNITS)
        self.shows("5 [m^0]", (5, 1))
        self.shows("5 [m m^-1]", (5, 1))

    def test_a_sum_and_a_difference(self):
        self.shows("1 [km] + 1 [m]", (1001, 1), M, UNITS)
        self.shows("1 [m] - 1 [km]", (-999, 1), M, UNITS)
        self.shows("0.5 + 0.25", (3, 4))
        self.shows("1 - 2 - 3", (-4, 1))
        self.shows("1 - (2 - 3)", (2, 1))

    def test_a_product_and_a_quotient(self):
        self.shows("2 [m] * 3 [s]", (6, 1), {"m": 1, "s": 1})
        self.shows("3 [s] * 2 [m]", (6, 1), {"m": 1, "s": 1})
        self.shows("2 [m] / 3 [s]", (2, 3), {"m": 1, "s": -1})
        self.shows("2 [m] / 4 [m]", (1, 2))
        self.shows("8 / 4 / 2", (1, 1))
        self.shows("8 / (4 / 2)", (4, 1))
        self.shows("0 [m] / 5 [s]", (0, 1), {"m": 1, "s": -1})
        self.shows("(1 - 3) / (3 - 10)", (2, 7))
        self.shows("1 / (3 - 10)", (-1, 7))

    def test_a_power(self):
        self.shows("3 [m] ^ 2", (9, 1), {"m": 2})
        self.shows("1.5 ^ 3", (27, 8))
        self.shows("3 [m s^-1] ^ 1", (3, 1), {"m": 1, "s": -1})
        self.shows("2 ^ 3 ^ 2", (64, 1))
        self.shows("(1 - 3) ^ 3", (-8, 1))
        self.shows("2 * 3 ^ 2", (18, 1))

    def test_the_power_0(self):
        self.shows("3 [m] ^ 0", (1, 1))
        self.shows("0 ^ 0", (1, 1))
        self.shows("0 [m] ^ 0", (1, 1))
        self.shows("0 ^ -0", (1, 1))
        self.shows("(1 [m] - 1 [m]) ^ 0", (1, 1))

    def test_negative_powers(self):
        self.shows("2 [m] ^ -1", (1, 2), {"m": -1})
        self.shows("1.5 [m s^-1] ^ -3", (8, 27), {"m": -3, "s": 3})
        self.shows("(1 - 3) ^ -3", (-1, 8))
        self.shows("(1 - 3) ^ -2", (1, 4))
        self.shows("0 ^ 3", (0, 1))

    def test_comparisons(self):
        for one, sign, two, truth in (
                ("1", "<", "2", True), ("2", "<", "2", False), ("3", "<", "2", False), ("1", "<=", "2", True),
                ("2", "<=", "2", True), ("3", "<=", "2", False), ("2", "==", "2.0", True), ("2", "==", "3", False),
                ("1 [km]", "==", "1000 [m]", True), ("1 [h]", "<", "3599 [s]", False), ("1 - 2", "<", "0", True),
                ("1 / 3", "<", "0.3333", False), ("0 - 1 / 3", "<", "0 - 1 / 4", True)):
            self.runs(f"{UNITS}show {one} {sign} {two};", [("truth", truth)])

    def test_truths(self):
        for e, truth in (
                ("true", True), ("false", False), ("not true", False), ("not not true", True),
                ("not false and false", False), ("not (false and false)", True), ("true or true and false", True),
                ("(true or true) and false", False), ("let t = 1 < 2 in t and t", True)):
            self.runs(f"show {e};", [("truth", truth)])


class WeightTest(RunTest):
    """Point 5.1: weights."""

    def test_each_weight_that_can_be_borne(self):
        for weight, e in WEIGHTS.items():
            if weight < 60:
                self.ends(f"{e} + {WEIGHTS[60 - weight]}", DONE)
            self.ends(f"{e} + {WEIGHTS[61 - weight]}", HEAVY)

    def test_each_operation_adds_the_weights(self):
        for sign in "+-*/":
            self.ends(f"{WEIGHTS[30]} {sign} {WEIGHTS[30]}", DONE)
            self.ends(f"{WEIGHTS[31]} {sign} {WEIGHTS[30]}", HEAVY)
            self.ends(f"{WEIGHTS[30]} {sign} {WEIGHTS[31]}", HEAVY)
            self.ends(f"{WEIGHTS[60]} {sign} 1", HEAVY)
            self.ends(f"1 {sign} {WEIGHTS[59]}", DONE)

    def test_long_chains(self):
        self.ends(" + ".join(["1 * 1 * 1"] * 20), DONE)
        self.ends(" + ".join(["1 * 1 * 1"] * 20 + ["0"]), HEAVY)

    def test_a_power_multiplies_the_weight(self):
        self.ends(f"{WEIGHTS[20]} ^ 3", DONE)
        self.ends(f"{WEIGHTS[20]} ^ -3", DONE)
        self.ends(f"{WEIGHTS[21]} ^ 3", HEAVY)
        self.ends(f"{WEIGHTS[21]} ^ -3", HEAVY)
        self.ends(f"{WEIGHTS[60]} ^ 1", DONE)
        self.ends(f"{WEIGHTS[60]} ^ -1", DONE)
        self.ends(f"{WEIGHTS[31]} ^ 2", HEAVY)
        self.ends(f"{WEIGHTS[20]} ^ -3 + 1", HEAVY)
        self.ends("0 ^ 8 ^ 8", HEAVY)

    def test_the_power_0_has_the_weight_1(self):
        self.ends(f"{WEIGHTS[60]} ^ 0 + {WEIGHTS[59]}", DONE)
        self.ends(f"{WEIGHTS[60]} ^ 0 + {WEIGHTS[60]}", HEAVY)
        self.ends(f"0 ^ 0 + {WEIGHTS[59]}", DONE)
        self.ends(f"0 ^ 0 + {WEIGHTS[60]}", HEAVY)

    def test_a_number_has_the_weight_1_whatever_its_size_and_product(self):
        text = "base m; unit u = 999999 [m]; unit v = 0.0001 [u^3]; "
        for number in ("0", "0.0001", "999999.9999", "7 [v]", "7 [u^3]"):
            self.ends(f"({number}) ^ 6 * {WEIGHTS[54]}", DONE, text)
            self.ends(f"({number}) ^ 6 * {WEIGHTS[55]}", HEAVY, text)

    def test_comparisons_add_no_weights(self):
        for sign in ("<", "<=", "=="):
            self.ends(f"{WEIGHTS[60]} {sign} {WEIGHTS[60]}", DONE)
            self.ends(f"{WEIGHTS[60]} * 1 {sign} 1", HEAVY)

    def test_values_keep_their_weights(self):
        double = "fun double(x) = x + x; "
        self.ends("iterate double 5 from 1", DONE, double)
        self.ends("iterate double 6 from 1", HEAVY, double)
        self.ends(f"double({WEIGHTS[30]})", DONE, double)
        self.ends(f"double({WEIGHTS[31]})", HEAVY, double)
        self.ends(f"let x = {WEIGHTS[20]} in x + x + x", DONE)
        self.ends(f"let x = {WEIGHTS[21]} in x + x + x", HEAVY)

    def test_what_is_not_used_has_no_weight(self):
        first = "fun first(x, y) = x; "
        self.ends(f"first(1, {WEIGHTS[60]}) + {WEIGHTS[59]}", DONE, first)
        self.ends(f"(let x = {WEIGHTS[60]} in 1) + {WEIGHTS[59]}", DONE)
        text = f"show (if {WEIGHTS[60]} == 1 then 1 else {WEIGHTS[60]}) + {WEIGHTS[59]};"
        self.runs(text, [("branch", text.index("if"), True), ("plain", (2, 1), {})])

    def test_a_show_in_a_product_adds_no_weight(self):
        text = "base m; unit half = 0.5 [m]; "
        self.runs(f"{text}show {WEIGHTS[59]} * 3 [m] in [half];", [("shown", (6, 1), M)])
        self.runs(f"{text}show {WEIGHTS[60]} * 3 [m] in [half];", [], HEAVY)


class EvaluationTest(RunTest):
    """Point 5.2."""

    def test_parts_are_evaluated_from_left_to_right(self):
        heavy = f"{WEIGHTS[60]} * 1"
        for sign in ("+", "-", "*", "/", "<", "<=", "=="):
            self.ends(f"(1 / 0) {sign} ({heavy})", ZERO)
            self.ends(f"({heavy}) {sign} (1 / 0)", HEAVY)
        two = "fun two(x, y) = x; "
        self.ends(f"two(1 / 0, {heavy})", ZERO, two)
        self.ends(f"two({heavy}, 1 / 0)", HEAVY, two)
        self.ends(f"let x = 1 / 0 in {heavy}", ZERO)
        self.ends(f"let x = {heavy} in 1 / 0", HEAVY)

    def test_parts_are_evaluated_also_if_they_are_not_used(self):
        self.ends("first(1, 1 / 0)", ZERO, "fun first(x, y) = x; ")
        self.ends("let x = 1 / 0 in 1", ZERO)
        self.ends("0 * (1 / 0)", ZERO)
        self.ends("(1 / 0) ^ 0", ZERO)

    def test_the_trace_has_the_order_of_the_evaluation(self):
        text = "show (if true then 1 else 2) + (if false then 3 else 4) * (if true then 5 else 6);"
        ats = [at for at in range(len(text)) if text.startswith("if", at)]
        self.runs(text, [("branch", ats[0], True), ("branch", ats[1], False), ("branch", ats[2], True),
                         ("plain", (21, 1), {})])
        text = "fun f(x, y) = if x < y then x else y; show f(if true then 1 else 2, if false then 3 else 4);"
        ats = [at for at in range(len(text)) if text.startswith("if", at)]
        self.runs(text, [("branch", ats[1], True), ("branch", ats[2], False), ("branch", ats[0], True),
                         ("plain", (1, 1), {})])

    def test_an_if_adds_to_the_trace_behind_its_test_and_before_its_branch(self):
        text = "show if (if true then false else true) then 1 else (if 1 < 2 then 3 else 4);"
        ats = [at for at in range(len(text)) if text.startswith("if", at)]
        self.runs(text, [("branch", ats[1], True), ("branch", ats[0], False), ("branch", ats[2], True),
                         ("plain", (3, 1), {})])
        self.runs("show if true then 1 / 0 else 1;", [("branch", 5, True)], ZERO)
        self.runs("show if false then 1 / 0 else 1;", [("branch", 5, False), ("plain", (1, 1), {})])
        self.runs("show if 1 / 0 < 1 then 1 else 1;", [], ZERO)

    def test_branches_may_be_truth_values(self):
        self.runs("show if true then false else true;", [("branch", 5, True), ("truth", False)])
        self.runs("show not (if false then false else true);", [("branch", 10, False), ("truth", False)])

    def test_and_evaluates_its_right_side_only_if_it_must(self):
        self.runs("show false and 1 / 0 < 1;", [("truth", False)])
        self.runs("show true and 1 / 0 < 1;", [], ZERO)
        self.runs("show true and false and 1 / 0 < 1;", [("truth", False)])
        self.runs("show true and true;", [("truth", True)])
        self.runs("show true and false;", [("truth", False)])
        self.runs("show false and true;", [("truth", False)])
        self.runs("show false and (if true then true else true);", [("truth", False)])
        self.runs("show true and (if true then false else true);", [("branch", 15, True), ("truth", False)])

    def test_or_evaluates_its_right_side_only_if_it_must(self):
        self.runs("show true or 1 / 0 < 1;", [("truth", True)])
        self.runs("show false or 1 / 0 < 1;", [], ZERO)
        self.runs("show false or true or 1 / 0 < 1;", [("truth", True)])
        self.runs("show false or false;", [("truth", False)])
        self.runs("show false or true;", [("truth", True)])
        self.runs("show true or (if true then true else true);", [("truth", True)])
        self.runs("show false or (if true then false else true);", [("branch", 15, True), ("truth", False)])

    def test_and_and_or_together(self):
        self.runs("show true or false and 1 / 0 < 1;", [("truth", True)])
        self.runs("show false and 1 / 0 < 1 or true;", [("truth", True)])
        self.runs("show false and (1 / 0 < 1 or true);", [("truth", False)])
        self.runs("show (true or 1 / 0 < 1) and 1 / 0 < 1;", [], ZERO)
        self.runs("show not (true and false) or 1 / 0 < 1;", [("truth", True)])

    def test_iterate(self):
        text = "base m; fun more(x) = x + 1 [m]; fun same(x) = x; fun half(x) = x / 2; "
        for count in (0, 1, 2, 19, 20):
            self.shows(f"iterate more {count} from 5 [m]", (5 + count, 1), M, text)
        self.shows("iterate half 20 from 1 [m]", (1, 2 ** 20), M, text)
        self.shows("iterate same 20 from 7", (7, 1), None, text)
        self.shows("iterate more 2 from iterate half 3 from 16 [m]", (4, 1), M, text)
        self.shows("iterate more 2 from (iterate half 3 from 8 [m] + 8 [m])", (11, 1), M, text)

    def test_iterate_calls_one_behind_the_other(self):
        text = "fun f(x) = if x < 3 then x + 2 else x - 1; show iterate f 4 from 1;"
        at = text.index("if")
        self.runs(text, [("branch", at, True), ("branch", at, False), ("branch", at, True), ("branch", at, False),
                         ("plain", (3, 1), {})])
        self.runs("fun f(x) = 1 / x; show iterate f 0 from 0;", [("plain", (0, 1), {})])
        self.runs("fun f(x) = 1 / x; show iterate f 1 from 0;", [], ZERO)
        self.runs("fun f(x) = x; show iterate f 0 from (1 / 0);", [], ZERO)

    def test_names(self):
        self.runs("show let x = 1 in let x = x + 1 in let y = x * 10 in x + y;", [("plain", (22, 1), {})])
        self.runs("show let x = 1 in (let x = 2 in x) * 10 + x;", [("plain", (21, 1), {})])
        self.runs("fun f(x) = let x = x + 1 in x * x; show f(2);", [("plain", (9, 1), {})])
        self.runs("fun f(x, y) = x - y; fun g(y, x) = f(x, y); show g(1, 10);", [("plain", (9, 1), {})])
        self.runs("fun f(x) = (let y = x + 1 in y) * x; show let x = 5 in f(3) + x;", [("plain", (17, 1), {})])
        self.runs("fun f(a, b, c) = a * 100 + b * 10 + c; show f(1, let b = 2 in b, let a = 3 in a);",
                  [("plain", (123, 1), {})])
        self.runs("fun f(a) = let b = a + 1 in (let c = b + 1 in c * 10) + (let d = b + 2 in d) + b; show f(1);",
                  [("plain", (36, 1), {})])

    def test_a_function_may_be_called_for_quantities_of_several_dimensions(self):
        self.runs("base m; base s; fun sq(x) = x * x; show sq(3 [m]); show sq(2 [s^-1]); show sq(5);",
                  [("plain", (9, 1), {"m": 2}), ("plain", (4, 1), {"s": -2}), ("plain", (25, 1), {})])

    def test_functions_of_truth_values_and_without_parameters(self):
        self.runs("base m; fun c() = 3 [m]; fun small(x) = x < c(); show small(2 [m]); show small(c()); show c() / 2;",
                  [("truth", True), ("truth", False), ("plain", (3, 2), M)])

    def test_a_division_by_0(self):
        self.ends("1 / 0", ZERO)
        self.ends("0 / 0", ZERO)
        self.ends("1 [m] / (1 [s] - 1 [s])", ZERO)
        self.ends("1 / 0 ^ 1", ZERO)
        self.ends("1 / 0 ^ 0", DONE)

    def test_a_negative_power_of_0(self):
        self.ends("0 ^ -1", ZERO)
        self.ends("0 [m] ^ -9", ZERO)
        self.ends("(1 [m] - 1 [m]) ^ -2", ZERO)
        self.ends("0 ^ -0", DONE)
        self.ends("0 ^ 2 ^ -1", ZERO)

    def test_for_an_operation_the_weight_is_asked_before_the_division(self):
        self.ends(f"{WEIGHTS[60]} / 0", HEAVY)
        self.ends(f"{WEIGHTS[59]} / 0", ZERO)
        self.ends(f"1 / ({WEIGHTS[59]} * 0)", HEAVY)
        self.ends(f"1 / ({WEIGHTS[58]} * 0)", ZERO)

    def test_for_a_power_the_weight_is_asked_behind_the_division(self):
        self.ends(f"({WEIGHTS[59]} * 0) ^ -2", ZERO)
        self.ends(f"({WEIGHTS[59]} * 0) ^ 2", HEAVY)
        self.ends(f"({WEIGHTS[59]} * 1) ^ -2", HEAVY)
        self.ends(f"({WEIGHTS[59]} * 0) ^ -1", ZERO)
        self.ends(f"({WEIGHTS[59]} * 0) ^ 0", DONE)


class BudgetTest(RunTest):
    """Point 5.2: the budget of calls."""

    def test_300_calls_are_just_kept(self):
        self.runs(CALLS + SPEND_299, [SPENT])
        self.runs(CALLS + SPEND_300, [SPENT])
        self.runs(CALLS + SPEND_299 + "show id(2);", [SPENT, ("plain", (2, 1), {})])

    def test_301_calls_are_too_many(self):
        self.runs(CALLS + SPEND_300 + "show id(2);", [SPENT], WEARY)
        self.runs(CALLS + SPEND_299 + "show id(2); show id(3);", [SPENT, ("plain", (2, 1), {})], WEARY)
        self.runs(CALLS + "show iterate twenty 15 from 1;", [], WEARY)
        self.runs(CALLS + SPEND_300 + "show iterate id 1 from 2;", [SPENT], WEARY)

    def test_what_calls_nothing_goes_on(self):
        self.runs(CALLS + SPEND_300 + "show 1 + 1; show true; show iterate id 0 from 5;",
                  [SPENT, ("plain", (2, 1), {}), ("truth", True), ("plain", (5, 1), {})])

    def test_functions_without_parameters_are_calls_too(self):
        self.runs(CALLS + "fun c() = 1; " + SPEND_299 + "show c(); show c();", [SPENT, SPENT], WEARY)

    def test_the_arguments_are_evaluated_before_the_budget_is_asked(self):
        self.runs(CALLS + SPEND_300 + "show id(1 / 0);", [SPENT], ZERO)
        self.runs(CALLS + SPEND_300 + f"show id({WEIGHTS[60]} * 1);", [SPENT], HEAVY)
        self.runs(CALLS + SPEND_300 + "show iterate id 2 from (1 / 0);", [SPENT], ZERO)
        text = CALLS + SPEND_300 + "show id(if true then 1 else 2);"
        self.runs(text, [SPENT, ("branch", text.index("if true"), True)], WEARY)
        text = CALLS + SPEND_300 + "show iterate id 2 from (if true then 1 else 2);"
        self.runs(text, [SPENT, ("branch", text.index("if true"), True)], WEARY)

    def test_the_budget_is_asked_before_the_function_is_evaluated(self):
        self.runs(CALLS + "fun c() = 1 / 0; " + SPEND_300 + "show c();", [SPENT], WEARY)
        self.runs(CALLS + "fun c() = 1 / 0; " + SPEND_299 + "show c();", [SPENT], ZERO)

    def test_a_call_in_an_argument_takes_from_the_budget_first(self):
        text = CALLS + "fun f(x) = if x < 2 then x else x; " + SPEND_299 + "show f(f(1));"
        self.runs(text, [SPENT, ("branch", text.index("if x"), True)], WEARY)
        self.runs(CALLS + "fun c() = 1 / 0; " + SPEND_299 + "show c() + id(1);", [SPENT], ZERO)

    def test_each_run_has_a_budget_of_its_own(self):
        program = check(CALLS + SPEND_300)
        self.assertEqual(run(program), ([SPENT], DONE))
        self.assertEqual(run(program), ([SPENT], DONE))

    def test_calls_that_are_not_made_take_nothing(self):
        text = CALLS + SPEND_300 + "show true or id(1) < 2; show if true then 1 else id(1);"
        self.runs(text, [SPENT, ("truth", True), ("branch", text.index("if"), True), SPENT])


class MixedTest(RunTest):
    """Point 5.2: quantities of unlike dimensions, in programs that have not been let by as they are."""

    def test_unlike_dimensions(self):
        for sign in ("+", "-", "<", "<=", "=="):
            for sides in ("1 [m] @ 1", "1 @ 1 [s]", "1 [m] @ 1 [s]", "1 [m^2] @ 1 [m]", "1 [m s] @ 1 [m]"):
                text = f"show {sides.replace('@', sign)};"
                program = check("base m; base s; show 1;")
                program.shows.append((parse(text)[0][1], None, {}))
                with self.subTest(text):
                    with self.assertRaises(Mixed) as caught:
                        run(program)
                    self.assertEqual(vars(caught.exception), {"at": text.index(sign)})

    def test_products_and_quotients_mix_what_they_like(self):
        self.runs("base m; base s; show 1 [m] * 1 [s] + 1 [m s]; show 1 [m] / 1 [s] == 1 [m s^-1];",
                  [("plain", (2, 1), {"m": 1, "s": 1}), ("truth", True)])


class ShowTest(RunTest):
    """Point 5.3."""

    def test_no_lines(self):
        self.runs("", [])
        self.runs("base m; unit km = 1000 [m]; fun f(x) = 1 / 0;", [])

    def test_truths(self):
        self.runs("show true; show 1 < 0;", [("truth", True), ("truth", False)])

    def test_plain_numbers_have_their_dimensions(self):
        self.runs("base s; base m; base a; show 1 [s^-1 m^2 a]; show 1 [a a^-1]; show 2;",
                  [("plain", (1, 1), {"a": 1, "m": 2, "s": -1}), ("plain", (1, 1), {}), ("plain", (2, 1), {})])

    def test_numbers_in_products(self):
        speed = {"m": 1, "s": -1}
        self.runs(UNITS + "show 10 [m s^-1] in [km h^-1];", [("shown", (36, 1), speed)])
        self.runs(UNITS + "show 10 [m s^-1] in [m s^-1];", [("shown", (10, 1), speed)])
        self.runs(UNITS + "show 10 [km] in [m];", [("shown", (10000, 1), M)])
        self.runs(UNITS + "show 1 [m] in [km];", [("shown", (1, 1000), M)])
        self.runs(UNITS + "show 7 in [];", [("shown", (7, 1), {})])
        self.runs(UNITS + "show 7 in [m^0];", [("shown", (7, 1), {})])
        self.runs(UNITS + "show 7 in [km m^-1];", [("shown", (7, 1000), {})])
        self.runs(UNITS + "show 0 [m] in [km];", [("shown", (0, 1), M)])
        self.runs("base m; unit part = 1.5 [m^2]; show 3 [m^-2] in [part^-1];", [("shown", (9, 2), {"m": -2})])

    def test_one_show_behind_the_other(self):
        self.runs(UNITS + "show 1 [m]; show true; show 1 [m] in [km]; show 1 [m];",
                  [("plain", (1, 1), M), ("truth", True), ("shown", (1, 1000), M), ("plain", (1, 1), M)])

    def test_one_of_several_halts(self):
        self.runs("show 1; show true; show 1 / 0; show 2;", [("plain", (1, 1), {}), ("truth", True)], ZERO)
        self.runs(f"show 1; show {WEIGHTS[60]} * 1; show 1 / 0;", [("plain", (1, 1), {})], HEAVY)
        self.runs("show 0 ^ -1; show 2;", [], ZERO)
        text = "show 1; show (if true then 1 else 2) / 0;"
        self.runs(text, [("plain", (1, 1), {}), ("branch", text.index("if"), True)], ZERO)

    def test_what_is_shown_has_the_dimension_that_is_told_of_it(self):
        program = check(UNITS + "fun f(x, y) = x * x / y; show f(2 [km], 3 [s]); show f(1, 1) < 2; show f(1, 1) in [];")
        dimensions = [entry[2] if len(entry) == 3 else None for entry in run(program)[0]]
        self.assertEqual(dimensions, [{"m": 2, "s": -1}, None, {}])
        self.assertEqual(dimensions, [dimension for _, _, dimension in program.shows])


class RunOfProgramTest(RunTest):
    def test_it_is_defined_here(self):
        self.assertEqual(run.__module__, "alnage.meaning")
        self.assertIs(meaning.run, run)

    def test_the_program_is_not_changed(self):
        text = UNITS + "fun f(x) = let y = x in y + y; show iterate f 3 from 1 [km]; show f(2 [m]) in [km]; show 1 / 0;"
        program = check(text)
        units = copy.deepcopy(vars(program.units))
        functions, shows = copy.deepcopy(program.functions), copy.deepcopy(program.shows)
        first = run(program)
        self.assertEqual((program.functions, program.shows), (functions, shows))
        self.assertEqual(vars(program.units), units)
        for entry in first[0]:
            entry[2]["other"] = 1
        self.assertEqual(run(program), ([("plain", (8000, 1), M), ("shown", (1, 250), M)], ZERO))
        self.assertEqual((program.functions, program.shows), (functions, shows))

    def test_each_entry_has_a_dimension_of_its_own(self):
        program = check("base m; fun f(x) = x; show f(1 [m]); show 2 [m] in [m]; show let x = 3 [m] in x; show 4 [m];")
        dimensions = [entry[2] for entry in run(program)[0]] + [dimension for _, _, dimension in program.shows]
        self.assertEqual(dimensions, [M] * 8)
        self.assertEqual(len({id(dimension) for dimension in dimensions}), 8)
        text = "base m; fun c() = 1 [m]; show c(); show c();"
        one, two = run(check(text))[0]
        self.assertIsNot(one[2], two[2])

    def test_deep_programs(self):
        lets = "let y = x in " * 22
        text = "fun f0(x) = x; " + "".join(f"fun f{n}(x) = {lets}f{n - 1}(x); " for n in range(1, 9))
        self.ends("f8(1)", DONE, text)
        nots = "not " * 22
        text = "fun f0(x) = x < 2; " + "".join(f"fun f{n}(x) = {nots}f{n - 1}(x); " for n in range(1, 9))
        self.ends(nots + "f8(1)", DONE, text)
        ifs = "if true then " * 22
        text = "fun f0(x) = x; " + "".join(
            f"fun f{n}(x) = {ifs}f{n - 1}(x){' else 0' * 22}; " for n in range(1, 9))
        trace, end = run(check(text + "show f8(1);"))
        self.assertEqual((len(trace), end), (8 * 22 + 1, DONE))

    def test_long_chains_of_first_parts(self):
        e = "true"
        for level in range(23):
            e = f"({e}){' and true' * level}{' or false' * level}"
        self.ends(e, DONE)
        e = "1"
        for level in range(23):
            e = f"({e}){' ^ 1' * level}"
        self.ends(e, DONE)
        e = "0 < 1"
        for level in range(22):
            e = f"({e}){' and not false' * level}{' or 1 < 0' * level}"
        self.ends(e, DONE)


if __name__ == "__main__":
    unittest.main()
