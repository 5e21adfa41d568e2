"""Splitting a text into tokens."""
from alnage.errors import Malformed, Oversized

RESERVED = (
    "and", "base", "else", "false", "from", "fun", "if", "in", "iterate", "let", "not", "or",
    "show", "then", "true", "unit",
)
LONGEST_TEXT = 12000
LONGEST_NAME = 16
MOST_DIGITS = 6
SEPARATORS = " \t\n"
LETTERS = "abcdefghijklmnopqrstuvwxyzABCDEFGHIJKLMNOPQRSTUVWXYZ"
DIGITS = "0123456789"
NAMING = "abcdefghijklmnopqrstuvwxyzABCDEFGHIJKLMNOPQRSTUVWXYZ0123456789_"
# A sign stands before each one that it begins with, so that the first that fits is the longest.
SIGNS = ("<=", "==", "=", "<", "+", "-", "*", "/", "^", ",", ";", ":", "(", ")", "[", "]")
# The bottoms of numbers, by how many digits stand behind the point.
BOTTOMS = (1, 10, 100, 1000, 10000)


def tokens(text):
    """The list of the tokens of a text, each a tuple (kind, value, at)."""
    if len(text) > LONGEST_TEXT:
        raise Oversized("text")
    found = []
    at = token_start(text, 0)
    while at < len(text):
        kind, value, end = token_at(text, at)
        found.append((kind, value, at))
        at = token_start(text, end)
    return found


def token_start(text, at):
    """The index of the first character from `at` on that no separator or comment takes."""
    while at < len(text):
        if text[at] == "#":
            at = comment_end(text, at)
        elif text[at] in SEPARATORS:
            at += 1
        else:
            return at
    return at


def comment_end(text, at):
    """The index of the newline that ends a comment, or the length of the text."""
    newline = text.find("\n", at)
    return len(text) if newline < 0 else newline


def token_at(text, at):
    """The kind and the value of the token that begins at `at`, and the index behind it."""
    if text[at] in LETTERS:
        return name_at(text, at)
    if text[at] in DIGITS:
        return number_at(text, at)
    for sign in SIGNS:
        if text.startswith(sign, at):
            return "sign", sign, at + len(sign)
    raise Malformed(at)


def name_at(text, at):
    """A name or a reserved word, as `token_at` tells it."""
    end = run_end(text, at, NAMING)
    name = text[at:end]
    if name in RESERVED:
        return "word", name, end
    if len(name) > LONGEST_NAME:
        raise Malformed(at)
    return "name", name, end


def number_at(text, at):
    """A number, as `token_at` tells it."""
    point = run_end(text, at, DIGITS)
    whole = text[at:point]
    part = digits_behind(text, point)
    # A point without a digit behind it is not part of the number.
    end = point + 1 + len(part) if part else point
    if len(whole) > MOST_DIGITS or len(part) >= len(BOTTOMS):
        raise Malformed(at)
    if end < len(text) and text[end] in NAMING:
        raise Malformed(at)
    return "number", (int(whole + part), BOTTOMS[len(part)]), end


def digits_behind(text, point):
    """The digits behind the point at this index; none if there is no point."""
    if not text.startswith(".", point):
        return ""
    return text[point + 1:run_end(text, point + 1, DIGITS)]


def run_end(text, at, characters):
    """The index behind the longest run of these characters that begins at `at`."""
    while at < len(text) and text[at] in characters:
        at += 1
    return at
