"""Reading the text of a module."""

from leastlog.errors import InvalidText
from leastlog.grammar import (
    DEEPEST_LIST, MOST_CARRIES, MOST_CELLS, MOST_IMPORTS, MOST_PARAMETERS, MOST_PROCEDURES, MOST_RESULTS,
    MOST_STATEMENTS, is_row_index, is_row_length,
)
from leastlog.lines import Line
from leastlog.modules import Module
from leastlog.statements import read_branching, read_simple

# The parts of a text behind the name, in their order.
IMPORTS = 1
CELLS = 2
CARRIES = 3
PROCEDURES = 4


def read_module(text):
    """The Module with this text."""
    if not isinstance(text, str):
        raise InvalidText(0)
    lines = text.split("\n")
    # What stands behind the last line feed is a line, a wrong one, only if it has a character.
    unended = lines.pop()
    reader = ModuleReader()
    for index, line in enumerate(lines):
        following = lines[index + 1] if index + 1 < len(lines) else unended
        reader.take_line(line, index + 1, following)
    if unended or not lines:
        raise InvalidText(len(lines) + 1)
    return reader.finished()


class ModuleReader:
    """What the lines so far say, and what may come next."""

    def __init__(self):
        self._part = IMPORTS
        self._name = None
        self._imports = []
        self._cells = []
        self._carries = []
        self._headers = []
        self._bodies = []
        # The lists of statements to which lines may be added, the outermost one first.
        self._open = []

    def take_line(self, text, number, following):
        """Takes a line, in front of the line that follows."""
        words = text.lstrip(" ")
        spaces = len(text) - len(words)
        line = Line(words, number)
        if spaces:
            line.require(spaces // 2 <= len(self._open) and spaces == spaces // 2 * 2)
            self._take_statement(line, spaces // 2, following)
        elif self._name is None:
            line.take("module ")
            self._name = line.identifier()
        else:
            self._take_head(line)
        line.end()

    def finished(self):
        """The module of all lines."""
        procedures = [(*header, frozen(body)) for header, body in zip(self._headers, self._bodies)]
        return Module(self._name, self._imports, self._cells, procedures, self._carries)

    def _take_head(self, line):
        if line.tries("import "):
            self._begin(line, IMPORTS, self._imports, MOST_IMPORTS)
            self._imports.append(line.identifier())
        elif line.tries("cell "):
            self._begin(line, CELLS, self._cells, MOST_CELLS)
            self._cells.append((line.identifier(), None))
        elif line.tries("cells "):
            self._begin(line, CELLS, self._cells, MOST_CELLS)
            self._cells.append(read_row(line))
        elif line.tries("carry "):
            self._begin(line, CARRIES, self._carries, MOST_CARRIES)
            self._carries.append(read_carry(line))
        else:
            self._begin(line, PROCEDURES, self._headers, MOST_PROCEDURES)
            self._headers.append(read_header(line))
            self._bodies.append([])
            self._open = [self._bodies[-1]]

    def _begin(self, line, part, found, most):
        """A line of this part may come, if the part has room and no later one has begun."""
        line.require(self._part <= part and len(found) < most)
        self._part = part

    def _take_statement(self, line, depth, following):
        del self._open[depth:]
        statements = self._open[-1]
        if line.tries("else"):
            line.require(may_have_else(statements) and spaces_of(following) == 2 * depth + 2)
            self._open.append(statements[-1][3])
            return
        line.require(len(statements) < MOST_STATEMENTS)
        statement = read_simple(line)
        if statement is None:
            line.require(depth < DEEPEST_LIST)
            statement = read_branching(line)
            self._open.append(statement[2] if statement[0] == "if" else statement[3])
        statements.append(statement)


def spaces_of(text):
    """The number of spaces with which a line begins."""
    return len(text) - len(text.lstrip(" "))


def may_have_else(statements):
    """Whether the last statement is an if without an else."""
    return len(statements) > 0 and statements[-1][0] == "if" and not statements[-1][3]


def read_row(line):
    """A row of cells."""
    name = line.identifier()
    line.take(" ")
    length = line.natural()
    line.require(is_row_length(length))
    return name, length


def read_carry(line):
    """A carry."""
    name, number = line.identifier(), None
    if line.tries("["):
        number = line.natural()
        line.require(is_row_index(number))
        line.take("]")
    line.take(" = ")
    return name, number, line.expression()


def read_header(line):
    """A procedure without its body."""
    exported = line.tries("export ")
    line.take("procedure ")
    name, parameters, results = line.identifier(), [], []
    has_results = line.tries(" -> ")
    while not has_results and not line.is_done():
        line.take(" ")
        variable = line.identifier()
        line.take(":")
        parameters.append((variable, line.sort_word()))
        has_results = line.tries(" -> ")
    while has_results:
        results.append(line.sort_word())
        has_results = line.tries(" ")
    line.require(len(parameters) <= MOST_PARAMETERS and len(results) <= MOST_RESULTS)
    return "procedure", exported, name, tuple(parameters), tuple(results)


def frozen(statements):
    """A list of statements, and the lists in it, as tuples."""
    return tuple([frozen_statement(statement) for statement in statements])


def frozen_statement(statement):
    """A statement with its lists as tuples."""
    if isinstance(statement, tuple):
        return statement
    kind, first, second, last = statement
    return kind, first, frozen(second) if kind == "if" else second, frozen(last)
