"""The plain meaning of a program: a run in which each number has its dimension.

A value is a truth value, or a pair of a weighed number and its dimension.
"""
from alnage.errors import Halted, Mixed
from alnage.fractions import over, times
from alnage.reckoning import OPERATIONS, Budget, taken, weighed, weighed_power
from alnage.units import joined


def run(program):
    """The trace of a checked program, and how its run ended."""
    state = Run(program)
    try:
        for e, product, _ in program.shows:
            state.show(state.evaluate(e), product)
    except Halted as halt:
        return state.trace, ("halted", halt.why)
    return state.trace, ("done",)


class Run:
    """A run of a checked program, with the tasks that are left to do and the values that wait for them.

    A task is an expression to evaluate, or what is to be done with one when its parts have values. The last one is
    done first. The tasks are kept here since expressions are nested too deep to be evaluated by recursion: so are the
    first parts of chains, and in a function that is called the nesting goes on.
    """

    def __init__(self, program):
        self.units = program.units
        self.functions = program.functions
        self.budget = Budget()
        self.trace = []
        self.tasks = []
        self.waiting = []
        # The worths and dimensions of products, each of which may be met many times.
        self.products = {}

    def evaluate(self, e):
        """The value of the expression of a show."""
        self.plan(e, {})
        while self.tasks:
            kind, e, names = self.tasks.pop()
            step = STEPS[kind]
            step(self, e, names)
        return self.waiting.pop()

    def plan(self, e, names):
        """Evaluate an expression next; `names` has the values of the names that are bound around it."""
        self.tasks.append((e[0], e, names))

    def plan_later(self, kind, e, names):
        """Do this with an expression when what is planned next has been done."""
        self.tasks.append((kind, e, names))

    def enter(self, name, arguments):
        """Call a function."""
        self.budget.take_call()
        parameters, e = self.functions[name]
        self.plan(e, dict(zip(parameters, arguments)))

    def product(self, product):
        """The worth and the dimension of a product of the text."""
        if product not in self.products:
            self.products[product] = self.units.product(product)
        return self.products[product]

    def show(self, value, product):
        if isinstance(value, bool):
            self.trace.append(("truth", value))
            return
        (number, _), dimension = value
        if product is None:
            self.trace.append(("plain", number, dict(dimension)))
        else:
            self.trace.append(("shown", over(number, self.product(product)[0]), dict(dimension)))


def step_number(state, e, names):
    worth, dimension = state.product(e[2])
    state.waiting.append((weighed(times(e[1], worth)), dimension))


def step_bool(state, e, names):
    state.waiting.append(e[1])


def step_var(state, e, names):
    state.waiting.append(names[e[1]])


def step_call(state, e, names):
    state.plan_later("enter", e, names)
    for argument in reversed(e[2]):
        state.plan(argument, names)


def step_enter(state, e, names):
    """The arguments of a call have values."""
    state.enter(e[1], taken(state.waiting, len(e[2])))


def step_iterate(state, e, names):
    for _ in range(e[2]):
        state.plan_later("again", e, names)
    state.plan(e[3], names)


def step_again(state, e, names):
    """One of the calls of an iterate; what it is called with is there."""
    state.enter(e[1], taken(state.waiting, 1))


def step_not(state, e, names):
    state.plan_later("turn", e, names)
    state.plan(e[1], names)


def step_turn(state, e, names):
    state.waiting.append(not state.waiting.pop())


def step_if(state, e, names):
    state.plan_later("branch", e, names)
    state.plan(e[1], names)


def step_branch(state, e, names):
    """The test of an if has its value."""
    test = state.waiting.pop()
    state.trace.append(("branch", e[4], test))
    state.plan(e[2] if test else e[3], names)


def step_let(state, e, names):
    state.plan_later("bind", e, names)
    state.plan(e[2], names)


def step_bind(state, e, names):
    """What a let binds has its value."""
    inner = dict(names)
    inner[e[1]] = state.waiting.pop()
    state.plan(e[3], inner)


def step_left(state, e, names):
    """And, or: the right side may not be needed."""
    state.plan_later("right", e, names)
    state.plan(e[1], names)


def step_right(state, e, names):
    """The left side of an and, or has its value, which decides unless the right side must be asked."""
    if state.waiting[-1] == (e[0] == "and"):
        state.waiting.pop()
        state.plan(e[2], names)


def step_power(state, e, names):
    state.plan_later("raise", e, names)
    state.plan(e[1], names)


def step_raise(state, e, names):
    number, dimension = state.waiting.pop()
    state.waiting.append((weighed_power(number, e[2]), joined({}, dimension, e[2])))


def step_sides(state, e, names):
    """An operation with numbers: its left side is evaluated before its right one."""
    state.plan_later("operate", e, names)
    state.plan(e[2], names)
    state.plan(e[1], names)


def step_operate(state, e, names):
    two = state.waiting.pop()
    one = state.waiting.pop()
    operation = OPERATIONS[e[0]]
    if e[0] == "mul":
        state.waiting.append((operation(one[0], two[0]), joined(one[1], two[1], 1)))
    elif e[0] == "div":
        state.waiting.append((operation(one[0], two[0]), joined(one[1], two[1], -1)))
    else:
        ask_alike(one, two, e[3])
        found = operation(one[0], two[0])
        state.waiting.append((found, one[1]) if e[0] in ("add", "sub") else found)


def ask_alike(one, two, at):
    """Refuse numbers of unlike dimensions, which do not meet in a program that is let by."""
    if one[1] != two[1]:
        raise Mixed(at)


# What is done first with an expression of a kind, and what is done with it later under a name of its own.
STEPS = {
    "number": step_number, "bool": step_bool, "var": step_var, "call": step_call, "enter": step_enter,
    "iterate": step_iterate, "again": step_again, "not": step_not, "turn": step_turn, "if": step_if,
    "branch": step_branch, "let": step_let, "bind": step_bind, "and": step_left, "or": step_left, "right": step_right,
    "power": step_power, "raise": step_raise, "add": step_sides, "sub": step_sides, "mul": step_sides,
    "div": step_sides, "lt": step_sides, "le": step_sides, "eq": step_sides, "operate": step_operate,
}
