"""Going through the tokens of a text from left to right."""
from alnage.errors import Malformed


class Reader:
    """The tokens of a text, and how many of them have been taken.

    Words and signs are asked for by their values alone: no name and no number has such a value.
    """

    def __init__(self, found, length):
        self.found = found
        self.length = length
        self.taken = 0

    def ended(self):
        """Whether all tokens have been taken."""
        return self.taken == len(self.found)

    def where(self):
        """The index of the next token, or the length of the text if there is none."""
        if self.ended():
            return self.length
        return self.found[self.taken][2]

    def sees(self, values):
        """Whether the next token is one of these words and signs."""
        return not self.ended() and self.found[self.taken][1] in values

    def sees_kind(self, kind):
        """Whether the next token is of this kind."""
        return not self.ended() and self.found[self.taken][0] == kind

    def take(self):
        """Take the next token, which is there, and return its value."""
        value = self.found[self.taken][1]
        self.taken += 1
        return value

    def accept(self, value):
        """Take the next token if it is this word or sign; return whether it was."""
        if not self.sees((value,)):
            return False
        self.taken += 1
        return True

    def expect(self, value):
        """Take this word or sign."""
        if not self.accept(value):
            raise Malformed(self.where())

    def expect_kind(self, kind):
        """Take a token of this kind and return its value."""
        if not self.sees_kind(kind):
            raise Malformed(self.where())
        return self.take()

    def expect_whole(self, greatest):
        """Take a number without a point that is not too great, and return it as an integer."""
        at = self.where()
        top, bottom = self.expect_kind("number")
        if bottom != 1 or top > greatest:
            raise Malformed(at)
        return top
