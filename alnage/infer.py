"""Checking a program, and finding the dimensions of its functions and shows."""
from alnage.equations import Equations, ask_number
from alnage.errors import Clashing, Mistaken, Unfit
from alnage.forms import Scheme, added, copied, known, replaced
from alnage.parser import parse
from alnage.solutions import Solutions
from alnage.units import Units

MOST_FUNCTIONS = 9


class Program:
    """A checked program, or the lines of one that have been checked so far."""

    def __init__(self):
        self.units = Units()
        self.schemes = {}
        self.functions = {}
        self.shows = []


def check(text):
    """The checked program of a text."""
    program = Program()
    for line in parse(text):
        check_line(program, line)
    return program


def check_line(program, line):
    """Check a line, and add what it declares or shows to the program."""
    if line[0] == "base":
        program.units.add_base(line[1], line[2])
    elif line[0] == "unit":
        program.units.add_unit(line[1], line[2], line[3], line[4])
    elif line[0] == "fun":
        check_function(program, line)
    else:
        check_show(program, line)


def check_function(program, line):
    name, parameters, e = line[1], line[2], line[4]
    equations, result = pose_function(program, line)
    forms, count = solved(equations, name)
    # The unknowns of the parameters are the first ones.
    bound = forms[:len(parameters)]
    program.schemes[name] = Scheme(count, bound, None if result is None else replaced(result, forms))
    program.functions[name] = (tuple([parameter[0] for parameter in parameters]), e)


def check_show(program, line):
    e, product = line[1], line[2]
    equations, form = pose_show(program, line)
    forms = solved(equations, "show")[0]
    # No unknown is left free: all are those of calls, whose arguments tell them.
    program.shows.append((e, product, None if form is None else replaced(form, forms)[1]))


def pose_function(program, line):
    """The equations of a function, and the form of its expression."""
    name, parameters, product, e, at = line[1:]
    if name in program.schemes:
        raise Clashing(name, at)
    if len(program.schemes) == MOST_FUNCTIONS:
        raise Mistaken(at, "functions")
    equations = Equations(program.units, program.schemes)
    names = bind_parameters(equations, parameters, at)
    return equations, pose_whole(equations, e, names, product, at)


def pose_show(program, line):
    """The equations of a show, and the form of its expression."""
    e, product, at = line[1:]
    equations = Equations(program.units, program.schemes)
    return equations, pose_whole(equations, e, {}, product, at)


def bind_parameters(equations, parameters, at):
    """The forms of the parameters of a function, by their names."""
    names = {}
    for name, product in parameters:
        if name in names:
            raise Clashing(name, at)
        names[name] = equations.new_unknown()
        if product is not None:
            equations.equate(names[name], equations.told_form(product))
    return names


def pose_whole(equations, e, names, product, at):
    """The form of the whole expression of a line, which has the product if one is told."""
    form = equations.walk(e, names)
    if product is not None:
        ask_number(form, at)
        equations.equate(form, equations.told_form(product))
    return form


def solved(equations, name):
    """The forms of the unknowns of a line, all in free unknowns instead, and how many these are."""
    bases = equations.units.bases()
    solutions = Solutions(equations.made, equations.count)
    dimensions = solutions.dimensions(bases)
    if dimensions is None:
        raise Unfit(name, solutions.paper(bases))
    parts, count = solutions.freedom()
    return list(zip(parts, dimensions)), count


def told(scheme):
    """The number of unknowns of a scheme, the forms of its parameters, and that of its result or None."""
    result = None if scheme.result is None else copied(scheme.result)
    return (scheme.count, [copied(form) for form in scheme.parameters], result)


def witness(scheme, bases, parameters, result):
    """Dimensions for the unknowns by which the parameters and the result have these; None if there are none."""
    if len(parameters) != len(scheme.parameters) or (result is None) != (scheme.result is None):
        return None
    pairs = list(zip(scheme.parameters, parameters))
    if result is not None:
        pairs.append((scheme.result, result))
    equations = [added(form, known(dimension), -1) for form, dimension in pairs]
    # No dimension of these base units makes up for another base unit.
    if any([base not in bases for equation in equations for base in equation[1]]):
        return None
    return Solutions(equations, scheme.count).dimensions(bases)
