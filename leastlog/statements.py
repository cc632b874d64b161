"""The lines of statements, read one by one."""

from leastlog.grammar import is_turn_limit


def read_simple(line):
    """The statement of a line that has no lists; None if the line begins with none of their words."""
    if line.tries("let "):
        return read_binding(line, "let")
    if line.tries("set "):
        return read_binding(line, "set")
    if line.tries("put "):
        return read_put(line)
    if line.tries("add "):
        return read_add(line)
    if line.tries("call "):
        return read_call(line)
    if line.tries("return"):
        return read_return(line)
    return None


def read_binding(line, word):
    """A let or a set."""
    name = line.identifier()
    line.take(" = ")
    return word, name, line.expression()


def read_put(line):
    """A put."""
    name, number = line.cell_place()
    line.take(" = ")
    return "put", name, number, line.expression()


def read_add(line):
    """An add."""
    name, number = line.cell_place()
    line.take(" ")
    return "add", name, number, line.expression()


def read_call(line):
    """A call, in which the first identifier may be a result, the module or the procedure."""
    names = [line.identifier()]
    while line.tries(", "):
        names.append(line.identifier())
    if line.tries(" = "):
        return read_called(line, tuple(names), line.identifier())
    line.require(len(names) == 1)
    return read_called(line, (), names[0])


def read_called(line, names, first):
    """What stands behind the first identifier of what is called."""
    module, procedure = None, first
    if line.tries("."):
        module, procedure = first, line.identifier()
    line.take("(")
    if line.tries(")"):
        return "call", names, module, procedure, ()
    arguments = line.expressions()
    line.take(")")
    return "call", names, module, procedure, arguments


def read_return(line):
    """A return."""
    if line.is_done():
        return "return", ()
    line.take(" ")
    return "return", line.expressions()


def read_branching(line):
    """The statement of a line that has lists, as a list with empty lists of statements in it."""
    if line.tries("if "):
        return ["if", line.expression(), [], []]
    if line.tries("repeat "):
        times = line.expression()
        line.take(" as ")
        return ["repeat", times, line.identifier(), []]
    line.take("while ")
    truth = line.expression()
    line.take(" up to ")
    most = line.natural()
    line.require(is_turn_limit(most))
    return ["while", truth, most, []]
