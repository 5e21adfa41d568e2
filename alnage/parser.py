"""Reading a text as the lines of a program."""
from alnage.errors import Oversized
from alnage.lexer import tokens
from alnage.reader import Reader

DEEPEST = 24
GREATEST_POWER = 9
GREATEST_COUNT = 20
COMPARISONS = ("<", "<=", "==")
OPERATIONS = {
    "or": "or", "and": "and", "<": "lt", "<=": "le", "==": "eq",
    "+": "add", "-": "sub", "*": "mul", "/": "div",
}


def parse(text):
    """The list of the lines of a program."""
    reader = Reader(tokens(text), len(text))
    lines = []
    while not reader.ended():
        lines.append(read_line(reader))
    return lines


def read_line(reader):
    at = reader.where()
    if reader.accept("base"):
        line = ("base", reader.expect_kind("name"), at)
    elif reader.accept("unit"):
        line = read_unit(reader, at)
    elif reader.accept("fun"):
        line = read_function(reader, at)
    else:
        reader.expect("show")
        line = read_show(reader, at)
    reader.expect(";")
    return line


def read_unit(reader, at):
    name = reader.expect_kind("name")
    reader.expect("=")
    number = reader.expect_kind("number")
    return ("unit", name, number, read_product(reader), at)


def read_function(reader, at):
    name = reader.expect_kind("name")
    reader.expect("(")
    parameters = read_parameters(reader)
    product = read_told(reader)
    reader.expect("=")
    return ("fun", name, parameters, product, read_expression(reader, 1), at)


def read_parameters(reader):
    """The parameters of a function, with the bracket that ends them."""
    parameters = []
    if not reader.accept(")"):
        parameters.append(read_parameter(reader))
        while reader.accept(","):
            parameters.append(read_parameter(reader))
        reader.expect(")")
    return tuple(parameters)


def read_parameter(reader):
    name = reader.expect_kind("name")
    return (name, read_told(reader))


def read_told(reader):
    """The product behind a colon, or None if none is told."""
    return read_product(reader) if reader.accept(":") else None


def read_show(reader, at):
    e = read_expression(reader, 1)
    product = read_product(reader) if reader.accept("in") else None
    return ("show", e, product, at)


def read_product(reader):
    reader.expect("[")
    parts = []
    while not reader.accept("]"):
        at = reader.where()
        name = reader.expect_kind("name")
        power = read_power(reader) if reader.accept("^") else 1
        parts.append((name, power, at))
    return tuple(parts)


def read_power(reader):
    if reader.accept("-"):
        return -reader.expect_whole(GREATEST_POWER)
    return reader.expect_whole(GREATEST_POWER)


def deeper(level):
    """The level that begins inside of this one, or behind an operator."""
    if level == DEEPEST:
        raise Oversized("depth")
    return level + 1


def read_expression(reader, level):
    at = reader.where()
    if reader.accept("if"):
        return read_if(reader, level, at)
    if reader.accept("let"):
        return read_let(reader, level, at)
    return read_chain(reader, level, ("or",), read_both)


def read_if(reader, level, at):
    test = read_expression(reader, deeper(level))
    reader.expect("then")
    first = read_expression(reader, deeper(level))
    reader.expect("else")
    second = read_expression(reader, deeper(level))
    return ("if", test, first, second, at)


def read_let(reader, level, at):
    name = reader.expect_kind("name")
    reader.expect("=")
    bound = read_expression(reader, deeper(level))
    reader.expect("in")
    body = read_expression(reader, deeper(level))
    return ("let", name, bound, body, at)


def read_chain(reader, level, operators, read_part):
    """Parts with these operators between them, which associate to the left."""
    e = read_part(reader, level)
    while reader.sees(operators):
        at = reader.where()
        operation = OPERATIONS[reader.take()]
        level = deeper(level)
        e = (operation, e, read_part(reader, level), at)
    return e


def read_both(reader, level):
    return read_chain(reader, level, ("and",), read_plain)


def read_plain(reader, level):
    at = reader.where()
    if reader.accept("not"):
        return ("not", read_plain(reader, deeper(level)), at)
    left = read_terms(reader, level)
    if not reader.sees(COMPARISONS):
        return left
    at = reader.where()
    operation = OPERATIONS[reader.take()]
    return (operation, left, read_terms(reader, deeper(level)), at)


def read_terms(reader, level):
    return read_chain(reader, level, ("+", "-"), read_factors)


def read_factors(reader, level):
    return read_chain(reader, level, ("*", "/"), read_powers)


def read_powers(reader, level):
    e = read_primary(reader, level)
    while reader.sees(("^",)):
        at = reader.where()
        reader.expect("^")
        level = deeper(level)
        e = ("power", e, read_power(reader), at)
    return e


def read_primary(reader, level):
    at = reader.where()
    if reader.sees_kind("number"):
        return read_number(reader, at)
    if reader.accept("true"):
        return ("bool", True)
    if reader.accept("false"):
        return ("bool", False)
    if reader.accept("("):
        e = read_expression(reader, deeper(level))
        reader.expect(")")
        return e
    if reader.accept("iterate"):
        return read_iterate(reader, level, at)
    name = reader.expect_kind("name")
    if reader.accept("("):
        return ("call", name, read_arguments(reader, level), at)
    return ("var", name, at)


def read_number(reader, at):
    number = reader.take()
    product = read_product(reader) if reader.sees(("[",)) else ()
    return ("number", number, product, at)


def read_iterate(reader, level, at):
    name = reader.expect_kind("name")
    count = reader.expect_whole(GREATEST_COUNT)
    reader.expect("from")
    return ("iterate", name, count, read_primary(reader, deeper(level)), at)


def read_arguments(reader, level):
    """The arguments of a call, with the bracket that ends them."""
    arguments = []
    if not reader.accept(")"):
        arguments.append(read_expression(reader, deeper(level)))
        while reader.accept(","):
            arguments.append(read_expression(reader, deeper(level)))
        reader.expect(")")
    return tuple(arguments)
