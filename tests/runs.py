"""What the tests of runs have in common."""
import unittest

from alnage.compiler import compile_program
from alnage.infer import check
from alnage.machine import run_image
from alnage.meaning import run
from oracle import Oracle, plainly

DONE = ("done",)
ZERO = ("halted", "zero")
HEAVY = ("halted", "heavy")
WEARY = ("halted", "weary")
# An expression of each weight from 1 to 60.
WEIGHTS = {weight: f"(1 ^ {weight})" for weight in range(1, 10)}
for weight in range(10, 61):
    WEIGHTS[weight] = f"({WEIGHTS[weight % 9]} * 1 ^ {weight // 9} ^ 9)" if weight % 9 else f"(1 ^ {weight // 9} ^ 9)"
# Functions by which just so many calls are made, and what leaves none, or one, of the budget of 300.
CALLS = "fun id(x) = x; fun twenty(x) = iterate id 20 from x; "
SPEND_299 = "show iterate twenty 14 from iterate id 5 from 1; "
SPEND_300 = "show iterate twenty 14 from iterate id 6 from 1; "
SPENT = ("plain", (1, 1), {})


class RunTest(unittest.TestCase):
    """Programs that are run in the plain meaning and on the machine."""

    def runs(self, text, trace, end=DONE):
        """The run of a text makes this trace and ends so, and the machine does the same without dimensions."""
        with self.subTest(text):
            program = check(text)
            found = run(program)
            self.assertIs(type(found), tuple)
            self.assertIs(type(found[0]), list)
            self.assertEqual(found, (trace, end))
            for entry in found[0]:
                if entry[0] in ("plain", "shown"):
                    self.assertEqual(list(entry[2]), sorted(entry[2]))
            # The trace and the end are told by the test; that they hold is asked of a second program, too.
            oracle = Oracle(text)
            self.assertEqual((oracle.trace, oracle.end), (trace, end))
            self.assertEqual(run_image(compile_program(program)), (plainly(trace), end))

    def shows(self, e, number, dimension=None, lines="base m; base s; "):
        """An expression has this number, in base units, and this dimension."""
        self.runs(f"{lines}show {e};", [("plain", number, dimension or {})])

    def ends(self, e, end, lines="base m; base s; "):
        """A show of an expression ends the run so, with nothing in the trace if it is halted."""
        with self.subTest(e):
            program = check(f"{lines}show {e};")
            trace, found = run(program)
            self.assertEqual(found, end)
            self.assertEqual(len(trace), 1 if end == DONE else 0)
            self.assertEqual(run_image(compile_program(program)), (plainly(trace), end))
