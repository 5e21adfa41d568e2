"""Points 1.1 to 1.3, and the interface of alnage/lexer.py."""
import itertools
import re
import unittest

from alnage import lexer
from alnage.errors import Malformed, Oversized
from alnage.lexer import RESERVED, tokens

WORDS = ("and base else false from fun if in iterate let not or show then true unit").split()
SIGNS = "<= == = < + - * / ^ , ; : ( ) [ ]".split()


class LexerTest(unittest.TestCase):
    def refuses(self, text, at):
        with self.subTest(text=text[:40]):
            with self.assertRaises(Malformed) as caught:
                tokens(text)
            self.assertEqual(caught.exception.at, at)


class InterfaceTest(unittest.TestCase):
    def test_tokens_is_defined_here(self):
        self.assertEqual(lexer.tokens.__module__, "alnage.lexer")

    def test_tokens_gives_a_list_of_tuples(self):
        found = tokens("a 1;")
        self.assertIs(type(found), list)
        self.assertEqual([type(token) for token in found], [tuple] * 3)
        self.assertIs(type(found[1][1]), tuple)

    def test_reserved_words_in_their_order(self):
        self.assertEqual(RESERVED, tuple(WORDS))
        self.assertIs(type(RESERVED), tuple)


class SeparatorTest(LexerTest):
    """Point 1.1."""

    def test_empty_texts(self):
        for text in ("", " ", "\n\t ", "#", "# a comment", "# one\n# two", "#\n"):
            with self.subTest(text):
                self.assertEqual(tokens(text), [])

    def test_12000_characters_are_let_by(self):
        self.assertEqual(tokens(" " * 12000), [])
        self.assertEqual(tokens(" " * 11999 + "a"), [("name", "a", 11999)])
        self.assertEqual(len(tokens(";" * 12000)), 12000)

    def test_12001_characters_are_too_many(self):
        for text in (" " * 12001, ";" * 12001, "#" + "x" * 12000, "$" + " " * 12000, "1" * 20000):
            with self.subTest(text[:2]):
                with self.assertRaises(Oversized) as caught:
                    tokens(text)
                self.assertEqual(caught.exception.limit, "text")

    def test_separators(self):
        expected = [("name", "a", 0), ("name", "b", 2)]
        for separator in " \t\n":
            with self.subTest(separator):
                self.assertEqual(tokens("a" + separator + "b"), expected)

    def test_several_separators(self):
        self.assertEqual(tokens(" \t\n a\n\n\tb "), [("name", "a", 4), ("name", "b", 8)])

    def test_no_other_character_separates(self):
        for character in "\r\f\v\0\x1c\x85\xa0\u2003\u2028\ufeff":
            self.refuses("a" + character + "b", 1)

    def test_a_comment_ends_before_the_newline(self):
        self.assertEqual(tokens("a # b c\nd"), [("name", "a", 0), ("name", "d", 8)])
        self.assertEqual(tokens("a#\nb"), [("name", "a", 0), ("name", "b", 3)])
        self.assertEqual(tokens("a#b#c\nd#"), [("name", "a", 0), ("name", "d", 6)])

    def test_a_comment_ends_with_the_text(self):
        self.assertEqual(tokens("a # b"), [("name", "a", 0)])
        self.assertEqual(tokens("a #"), [("name", "a", 0)])

    def test_a_comment_ends_by_a_newline_alone(self):
        self.assertEqual(tokens("# a\rb\x0bc\u2028d;\te"), [])

    def test_a_comment_takes_all_characters(self):
        self.assertEqual(tokens("# $ \xe9 1a .. \n7"), [("number", (7, 1), 13)])

    def test_a_comment_separates(self):
        self.assertEqual(tokens("<#\n="), [("sign", "<", 0), ("sign", "=", 3)])
        self.assertEqual(tokens("1#\na"), [("number", (1, 1), 0), ("name", "a", 3)])


class WordTest(LexerTest):
    """Point 1.2: words and names."""

    def test_reserved_words(self):
        for word in WORDS:
            with self.subTest(word):
                self.assertEqual(tokens(" " + word + ";")[0], ("word", word, 1))

    def test_names_that_hold_reserved_words(self):
        for word in WORDS:
            for name in (word + "x", word + "1", word + "_", "x" + word, word.upper(), word.title()):
                with self.subTest(name):
                    self.assertEqual(tokens(name), [("name", name, 0)])

    def test_names(self):
        for name in ("a", "z", "A", "Z", "aZ09_", "x_", "x__1", "m2", "abcdefghijklmnop"):
            with self.subTest(name):
                self.assertEqual(tokens(name), [("name", name, 0)])

    def test_16_and_17_characters(self):
        name = "a23456789_123456"
        self.assertEqual(tokens("  " + name), [("name", name, 2)])
        self.refuses("  " + name + "7", 2)
        self.refuses("a " + "b" * 17 + " $", 2)
        self.refuses("x" * 12000, 0)

    def test_no_name_begins_otherwise(self):
        self.refuses("_a", 0)
        self.refuses("a; _", 3)
        self.refuses("\xe9", 0)
        self.refuses("\u0430", 0)

    def test_only_these_characters_go_on(self):
        self.refuses("a\xe9", 1)
        self.refuses("ab\u0661", 2)
        self.refuses("a'", 1)
        self.refuses("a.b", 1)
        self.assertEqual(tokens("a-b"), [("name", "a", 0), ("sign", "-", 1), ("name", "b", 2)])


class NumberTest(LexerTest):
    """Point 1.2: numbers."""

    def test_whole_numbers(self):
        for text, top in (("0", 0), ("7", 7), ("10", 10), ("007", 7), ("999999", 999999)):
            with self.subTest(text):
                self.assertEqual(tokens(text), [("number", (top, 1), 0)])

    def test_numbers_with_a_point(self):
        cases = (("2.5", (25, 10)), ("1.0", (10, 10)), ("0.25", (25, 100)), ("12.345", (12345, 1000)),
                 ("0.0001", (1, 10000)), ("3.1400", (31400, 10000)), ("999999.9999", (9999999999, 10000)),
                 ("00.10", (10, 100)))
        for text, number in cases:
            with self.subTest(text):
                self.assertEqual(tokens(" " + text + " "), [("number", number, 1)])

    def test_6_and_7_digits(self):
        self.assertEqual(tokens("123456"), [("number", (123456, 1), 0)])
        self.refuses("1234567", 0)
        self.assertEqual(tokens("123456.5"), [("number", (1234565, 10), 0)])
        self.refuses("1234567.5", 0)
        self.refuses("0000000", 0)
        self.refuses("a " + "1" * 11000, 2)

    def test_4_and_5_digits_behind_the_point(self):
        self.assertEqual(tokens("1.2345"), [("number", (12345, 10000), 0)])
        self.refuses("1.23456", 0)
        self.refuses("; 1.00000", 2)
        self.refuses("1." + "0" * 11000, 0)

    def test_a_point_without_a_digit_behind_it(self):
        self.refuses("1.", 1)
        self.refuses("12. 5", 2)
        self.refuses("1.x", 1)
        self.refuses("1..5", 1)
        self.refuses("1.\u0661", 1)
        self.refuses("123456.", 6)

    def test_a_point_without_a_digit_before_it(self):
        self.refuses(".5", 0)
        self.refuses("1 .5", 2)

    def test_a_second_point(self):
        self.refuses("1.5.2", 3)

    def test_what_follows_directly(self):
        for follower in ("a", "z", "A", "Z", "_", "e5"):
            for number in ("1", "123456", "1.5", "1.2345"):
                self.refuses("; " + number + follower, 2)

    def test_what_may_follow_directly(self):
        for follower in SIGNS:
            with self.subTest(follower):
                self.assertEqual(tokens("1.5" + follower)[0], ("number", (15, 10), 0))
        self.assertEqual(tokens("1 a"), [("number", (1, 1), 0), ("name", "a", 2)])
        self.assertEqual(tokens("1 2"), [("number", (1, 1), 0), ("number", (2, 1), 2)])
        self.refuses("1\xe9", 1)
        self.refuses("1\u0661", 1)

    def test_other_digits_are_none(self):
        self.refuses("\u0661", 0)
        self.refuses("\xb2", 0)
        self.refuses("\uff11", 0)


class SignTest(LexerTest):
    """Point 1.2: signs."""

    def test_each_sign(self):
        for sign in SIGNS:
            with self.subTest(sign):
                self.assertEqual(tokens(" " + sign), [("sign", sign, 1)])
                self.assertEqual(tokens(sign + " a"), [("sign", sign, 0), ("name", "a", len(sign) + 1)])

    def test_the_longest_that_fits(self):
        def signs(text):
            return [(value, at) for kind, value, at in tokens(text)]
        self.assertEqual(signs("<=="), [("<=", 0), ("=", 2)])
        self.assertEqual(signs("==="), [("==", 0), ("=", 2)])
        self.assertEqual(signs("===="), [("==", 0), ("==", 2)])
        self.assertEqual(signs("=<="), [("=", 0), ("<=", 1)])
        self.assertEqual(signs("<<="), [("<", 0), ("<=", 1)])
        self.assertEqual(signs("< ="), [("<", 0), ("=", 2)])
        self.assertEqual(signs("= ="), [("=", 0), ("=", 2)])
        self.assertEqual(signs("^-"), [("^", 0), ("-", 1)])

    def test_other_characters(self):
        for character in "!\"$%&'.>?@\\`{|}~_\x7f\xd7\u2264":
            self.refuses(character, 0)
            self.refuses("a ; " + character, 4)


class OrderTest(LexerTest):
    """Point 1.3."""

    def test_the_first_malformed_token(self):
        self.refuses("1a $", 0)
        self.refuses("a $ 1a", 2)
        self.refuses("base m; unit k = 1.23456 [m]; $", 17)
        self.refuses("# $\n $", 5)

    def test_the_tokens_of_a_program(self):
        text = "unit km = 1000.0 [m^-1]; # far\nshow x<=2;"
        self.assertEqual(tokens(text), [
            ("word", "unit", 0), ("name", "km", 5), ("sign", "=", 8), ("number", (10000, 10), 10),
            ("sign", "[", 17), ("name", "m", 18), ("sign", "^", 19), ("sign", "-", 20),
            ("number", (1, 1), 21), ("sign", "]", 22), ("sign", ";", 23), ("word", "show", 31),
            ("name", "x", 36), ("sign", "<=", 37), ("number", (2, 1), 39), ("sign", ";", 40),
        ])

    def test_all_short_texts_as_a_second_reading_has_them(self):
        for length in range(6):
            for characters in itertools.product("a1._=<# \n", repeat=length):
                text = "".join(characters)
                self.assertEqual(outcome(text), second_reading(text), text)


def outcome(text):
    """The tokens of a text, or the index of the one that is malformed."""
    try:
        return tokens(text)
    except Malformed as error:
        return error.at


TOKEN = re.compile(
    r"(?P<name>[a-zA-Z][a-zA-Z0-9_]*)"
    r"|(?P<number>[0-9]{1,6}(?:\.[0-9]{1,4}(?![0-9])|(?!\.?[0-9]))(?![a-zA-Z_]))"
    r"|(?P<sign><=|==|[=<])"
    r"|(?P<skip>[ \n]|#[^\n]*)"
)


def second_reading(text):
    """What `outcome` returns, found by a regular expression (for short names)."""
    found = []
    at = 0
    while at < len(text):
        match = TOKEN.match(text, at)
        if match is None:
            return at
        if match.lastgroup == "number":
            whole, _, part = match.group().partition(".")
            found.append(("number", (int(whole + part), 10 ** len(part)), at))
        elif match.lastgroup != "skip":
            found.append((match.lastgroup, match.group(), at))
        at = match.end()
    return found


if __name__ == "__main__":
    unittest.main()
