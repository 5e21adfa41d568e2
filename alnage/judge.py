"""Judging papers, which show that no dimensions fit a line."""
from alnage.errors import BadPaper, Unfit
from alnage.fractions import is_pair
from alnage.infer import Program, check_line, pose_function, pose_show
from alnage.linear import rules_out
from alnage.parser import parse


def judge(text, place, paper):
    """Refuse a paper that does not show that no dimensions fit the line at this place."""
    lines = parse(text)
    if place < 0 or place >= len(lines):
        raise BadPaper("there is no such line")
    if lines[place][0] not in ("fun", "show"):
        raise BadPaper("the line is a base or a unit")
    equations = equations_of(lines, place)
    ask_form(paper)
    base, weights = paper
    if base not in equations.units.bases():
        raise BadPaper("the first part is no base unit")
    rows = [unknowns for unknowns, dimension in equations.made]
    right = [-dimension.get(base, 0) for unknowns, dimension in equations.made]
    if not rules_out(rows, right, weights):
        raise BadPaper("the weights do not show it")


def equations_of(lines, place):
    """The equations of the line at this place, which is a function or a show."""
    program = Program()
    for line in lines[:place]:
        check_line(program, line)
    if lines[place][0] == "fun":
        return pose_function(program, lines[place])[0]
    return pose_show(program, lines[place])[0]


def ask_form(paper):
    """Refuse a value that is no pair of a text and a tuple of fractions."""
    if type(paper) != tuple or len(paper) != 2:
        raise BadPaper("the paper is no pair")
    base, weights = paper
    if type(base) != str:
        raise BadPaper("the first part is no name")
    if type(weights) != tuple or not all([is_pair(weight) and weight[1] > 0 for weight in weights]):
        raise BadPaper("the second part is no tuple of fractions")


def first_unfit(text):
    """The index of the first line that no dimensions fit, with a paper that shows it; None if there is none."""
    program = Program()
    for place, line in enumerate(parse(text)):
        try:
            check_line(program, line)
        except Unfit as unfit:
            return (place, unfit.paper)
    return None
