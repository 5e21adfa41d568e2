"""A machine that runs the code of a program and knows nothing of units.

Its values are truth values and weighed numbers.
"""
from alnage.errors import Halted
from alnage.fractions import over
from alnage.reckoning import OPERATIONS, Budget, taken, weighed, weighed_power


def run_image(image):
    """The trace of an image, and how its run ended."""
    machine = Machine()
    try:
        while machine.at < len(image):
            instruction = image[machine.at]
            machine.at += 1
            step = STEPS[instruction[0]]
            step(machine, instruction)
    except Halted as halt:
        return machine.trace, ("halted", halt.why)
    return machine.trace, ("done",)


class Machine:
    """The state of a run: the place of the next instruction, the stack, and what is kept for the function it is in.

    A frame is what a call goes back to: a place, and what was kept there.
    """

    def __init__(self):
        self.at = 0
        self.stack = []
        self.kept = []
        self.frames = []
        self.budget = Budget()
        self.trace = []


def step_number(machine, instruction):
    machine.stack.append(weighed(instruction[1]))


def step_bool(machine, instruction):
    machine.stack.append(instruction[1])


def step_load(machine, instruction):
    machine.stack.append(machine.kept[instruction[1]])


def step_keep(machine, instruction):
    machine.kept.append(machine.stack.pop())


def step_drop(machine, instruction):
    machine.kept.pop()


def step_not(machine, instruction):
    machine.stack.append(not machine.stack.pop())


def step_power(machine, instruction):
    machine.stack.append(weighed_power(machine.stack.pop(), instruction[1]))


def step_operation(machine, instruction):
    two = machine.stack.pop()
    one = machine.stack.pop()
    operation = OPERATIONS[instruction[0]]
    machine.stack.append(operation(one, two))


def step_jump(machine, instruction):
    machine.at = instruction[1]


def step_branch(machine, instruction):
    """Go on if the test holds; otherwise jump."""
    _, at, other = instruction
    test = machine.stack.pop()
    machine.trace.append(("branch", at, test))
    if not test:
        machine.at = other


def step_decide(machine, instruction):
    """Jump with the value on the stack if it is the one that decides; otherwise go on without it."""
    _, decisive, end = instruction
    if machine.stack[-1] == decisive:
        machine.at = end
    else:
        machine.stack.pop()


def step_call(machine, instruction):
    _, start, many = instruction
    machine.budget.take_call()
    machine.frames.append((machine.at, machine.kept))
    machine.kept = taken(machine.stack, many)
    machine.at = start


def step_return(machine, instruction):
    machine.at, machine.kept = machine.frames.pop()


def step_truth(machine, instruction):
    machine.trace.append(("truth", machine.stack.pop()))


def step_plain(machine, instruction):
    number = machine.stack.pop()[0]
    machine.trace.append(("plain", number))


def step_shown(machine, instruction):
    number = machine.stack.pop()[0]
    machine.trace.append(("shown", over(number, instruction[1])))


STEPS = {
    "number": step_number, "bool": step_bool, "load": step_load, "keep": step_keep, "drop": step_drop,
    "not": step_not, "power": step_power, "add": step_operation, "sub": step_operation, "mul": step_operation,
    "div": step_operation, "lt": step_operation, "le": step_operation, "eq": step_operation, "jump": step_jump,
    "branch": step_branch, "decide": step_decide, "call": step_call, "return": step_return, "truth": step_truth,
    "plain": step_plain, "shown": step_shown,
}
