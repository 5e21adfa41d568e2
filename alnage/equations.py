"""The equations between dimensions that the expression of a line makes.

They are made as the expression is walked, from left to right and its parts before the whole. Mistakes are raised
where they are met.
"""
from alnage.errors import Mistaken, Unknown
from alnage.forms import added, known, multiple, shifted, unknown


class Equations:
    """The unknowns and the equations of a line, in the order in which they are made.

    An equation is told by one form, that of its left side minus its right side, which is to be nothing.
    """

    def __init__(self, units, schemes):
        self.units = units
        self.schemes = schemes
        self.count = 0
        self.made = []

    def new_unknown(self):
        """The form of an unknown that was not there before."""
        self.count += 1
        return unknown(self.count - 1)

    def equate(self, left, right):
        self.made.append(added(left, right, -1))

    def told_form(self, product):
        """The form of a product of the text."""
        return known(self.units.product(product)[1])

    def scheme(self, name, many, at):
        """The scheme of a function that is passed so many arguments."""
        if name not in self.schemes:
            raise Unknown(name, at)
        scheme = self.schemes[name]
        if len(scheme.parameters) != many:
            raise Mistaken(at, "count")
        return scheme

    def instance(self, scheme):
        """The forms of the parameters and that of the result, with new unknowns in the place of the scheme's."""
        offset = self.count
        self.count += scheme.count
        parameters = [shifted(form, offset) for form in scheme.parameters]
        result = None if scheme.result is None else shifted(scheme.result, offset)
        return parameters, result

    def walk(self, e, names):
        """The form of an expression; `names` has those of the names that are bound around it."""
        # The first parts of chains are nested far deeper than their levels: too deep to be walked by recursion.
        chain = []
        while e[0] in CHAINS:
            chain.append(e)
            e = e[1]
        form_of = FORMS[e[0]]
        form = form_of(self, e, names)
        for link in reversed(chain):
            chain_form = CHAINS[link[0]]
            form = chain_form(self, link, form, names)
        return form

    def walk_number(self, e, names, at):
        """The form of an expression that what stands at this index asks for a number."""
        form = self.walk(e, names)
        ask_number(form, at)
        return form

    def walk_truth(self, e, names, at):
        ask_truth(self.walk(e, names), at)


def ask_number(form, at):
    if form is None:
        raise Mistaken(at, "number")


def ask_truth(form, at):
    if form is not None:
        raise Mistaken(at, "truth")


def form_of_number(equations, e, names):
    return equations.told_form(e[2])


def form_of_bool(equations, e, names):
    return None


def form_of_var(equations, e, names):
    if e[1] not in names:
        raise Unknown(e[1], e[2])
    return names[e[1]]


def form_of_call(equations, e, names):
    name, arguments, at = e[1:]
    parameters, result = equations.instance(equations.scheme(name, len(arguments), at))
    for argument, parameter in zip(arguments, parameters):
        equations.equate(equations.walk_number(argument, names, at), parameter)
    return result


def form_of_iterate(equations, e, names):
    name, start, at = e[1], e[3], e[4]
    scheme = equations.scheme(name, 1, at)
    ask_number(scheme.result, at)
    parameters, result = equations.instance(scheme)
    form = equations.walk_number(start, names, at)
    equations.equate(form, parameters[0])
    equations.equate(result, parameters[0])
    return form


def form_of_not(equations, e, names):
    equations.walk_truth(e[1], names, e[2])
    return None


def form_of_if(equations, e, names):
    test, first, second, at = e[1:]
    equations.walk_truth(test, names, at)
    one = equations.walk(first, names)
    two = equations.walk(second, names)
    if (one is None) != (two is None):
        raise Mistaken(at, "branches")
    if one is not None:
        equations.equate(one, two)
    return one


def form_of_let(equations, e, names):
    name, bound, body, at = e[1:]
    inner = dict(names)
    inner[name] = equations.walk(bound, names)
    return equations.walk(body, inner)


def chain_alike(equations, e, form, names):
    """A sum, a difference or a comparison: both parts have the same dimension."""
    ask_number(form, e[3])
    equations.equate(form, equations.walk_number(e[2], names, e[3]))
    return form


def chain_compare(equations, e, form, names):
    chain_alike(equations, e, form, names)
    return None


def chain_mul(equations, e, form, names):
    ask_number(form, e[3])
    return added(form, equations.walk_number(e[2], names, e[3]), 1)


def chain_div(equations, e, form, names):
    ask_number(form, e[3])
    return added(form, equations.walk_number(e[2], names, e[3]), -1)


def chain_power(equations, e, form, names):
    ask_number(form, e[3])
    return multiple(form, e[2])


def chain_truth(equations, e, form, names):
    """And, or: both parts are truth values."""
    ask_truth(form, e[3])
    equations.walk_truth(e[2], names, e[3])
    return None


# How the form of an expression is found that has no first part of its own level.
FORMS = {
    "number": form_of_number, "bool": form_of_bool, "var": form_of_var, "call": form_of_call,
    "iterate": form_of_iterate, "not": form_of_not, "if": form_of_if, "let": form_of_let,
}
# The same for one whose first part has been walked, with the form of this part.
CHAINS = {
    "add": chain_alike, "sub": chain_alike, "mul": chain_mul, "div": chain_div, "power": chain_power,
    "lt": chain_compare, "le": chain_compare, "eq": chain_compare, "and": chain_truth, "or": chain_truth,
}
