"""Lines: what one line of the text of a module says, read from left to right.

The methods raise InvalidText with the number of the line as soon as no line goes on like this.
"""

from math import gcd

from leastlog.amounts import Amount
from leastlog.errors import InvalidText
from leastlog.grammar import DEEPEST_EXPRESSION, OPERATORS, SORTS, is_identifier
from leastlog.kinds import DIGITS, LETTERS

LONGEST_NUMBER = 4000


class Line:
    """A line without its spaces in front, and how far it has been read."""

    def __init__(self, text, number):
        self._text = text
        self._number = number
        self._at = 0

    def fail(self):
        """Raises InvalidText."""
        raise InvalidText(self._number)

    def require(self, is_right):
        """Raises InvalidText unless something is right."""
        if not is_right:
            self.fail()

    def tries(self, part):
        """Reads this part if it comes next; returns whether it does."""
        if not self._text.startswith(part, self._at):
            return False
        self._at += len(part)
        return True

    def take(self, part):
        """Reads this part, which has to come next."""
        self.require(self.tries(part))

    def is_done(self):
        """Whether nothing is left."""
        return self._at == len(self._text)

    def end(self):
        """Nothing may be left."""
        self.require(self.is_done())

    def run_of(self, characters):
        """Reads as many of these characters as come next."""
        start = self._at
        while self._at < len(self._text) and self._text[self._at] in characters:
            self._at += 1
        return self._text[start:self._at]

    def identifier(self):
        """Reads an identifier."""
        word = self.run_of(LETTERS)
        self.require(is_identifier(word))
        return word

    def sort_word(self):
        """Reads a sort."""
        word = self.run_of(LETTERS)
        self.require(word in SORTS)
        return word

    def natural(self):
        """Reads a number without a sign and without zeros in front."""
        digits = self.run_of(DIGITS)
        self.require(1 <= len(digits) <= LONGEST_NUMBER)
        self.require(digits == "0" or digits[0] != "0")
        return int(digits)

    def numeral(self):
        """Reads the literal of a count or an amount."""
        is_below = self.tries("-")
        top = self.natural()
        self.require(top > 0 or not is_below)
        worth = -top if is_below else top
        if not self.tries("/"):
            return "count", worth
        bottom = self.natural()
        self.require(bottom > 0 and gcd(top, bottom) == 1)
        return "amount", Amount(worth, bottom)

    def expression(self, deepest=DEEPEST_EXPRESSION):
        """Reads an expression with at most so many operations and row reads within one another."""
        if self.tries("("):
            self.require(deepest > 0)
            return self.operation(deepest - 1)
        if self.tries("@"):
            return self.read(deepest)
        word = self.run_of(LETTERS)
        if word == "":
            return self.numeral()
        if word in ("yes", "no"):
            return "truth", word == "yes"
        self.require(is_identifier(word))
        return "name", word

    def operation(self, deepest):
        """Reads what stands behind the bracket of an operation."""
        if self.tries("not "):
            found = ("not", self.expression(deepest))
        else:
            first = self.expression(deepest)
            self.take(" ")
            word = self.operator()
            self.take(" ")
            found = (word, first, self.expression(deepest))
        self.take(")")
        return found

    def operator(self):
        """Reads the word of an operation with two operands."""
        word = self.run_of(LETTERS + "+-*/")
        self.require(word in OPERATORS)
        return word

    def read(self, deepest):
        """Reads what stands behind the @ of a read."""
        name = self.identifier()
        if not self.tries("["):
            return "read", name, None
        self.require(deepest > 0)
        number = self.expression(deepest - 1)
        self.take("]")
        return "read", name, number

    def expressions(self):
        """Reads one expression or more, with commas between them."""
        found = [self.expression()]
        while self.tries(", "):
            found.append(self.expression())
        return tuple(found)

    def cell_place(self):
        """Reads a cell to be written: its name, and the expression of its number or None."""
        name = self.identifier()
        if not self.tries("["):
            return name, None
        number = self.expression()
        self.take("]")
        return name, number
