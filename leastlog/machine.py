"""The machine that executes procedures, from stop to stop."""

from leastlog.forms import Form
from leastlog.frames import Frame
from leastlog.grammar import LONGEST_ROW


class RunFailed(Exception):
    """A run fails with this word."""

    def __init__(self, why):
        self.why = why


class Machine:
    """A run under way: its frames, the cells that it has written, and its events so far."""

    def __init__(self, program, store, arithmetic):
        self._program = program
        self._store = store
        self._arithmetic = arithmetic
        self._written = {}
        self._frames = []
        self._events = []
        self._seen = {}
        self._stops = 0
        self._result = None

    def clone(self):
        """An independent machine at the same place."""
        other = Machine(self._program, self._store, self._arithmetic.clone())
        other._written = dict(self._written)
        other._frames = [frame.clone() for frame in self._frames]
        other._events = list(self._events)
        other._seen = dict(self._seen)
        other._stops = self._stops
        other._result = self._result
        return other

    def start(self, text, arguments):
        """Enters a procedure and comes to its first stop."""
        self._enter(text, arguments)
        self._come_to_stop()

    def advance(self):
        """Executes the statement of the stop, and goes on to the next stop or to the end."""
        try:
            self._execute(self._frames[-1].statement())
        except RunFailed as failure:
            self._frames = []
            self._written = {}
            self._end("failed", failure.why)
        if self._result is None:
            self._come_to_stop()

    def result(self):
        """The last event, None if the run is not over."""
        return self._result

    def standing(self):
        """The place at which the run stands."""
        return tuple([frame.here() for frame in self._frames])

    def shown(self):
        """The variables of the place."""
        return tuple([frame.shown() for frame in self._frames])

    def stops(self):
        """The number of stops so far."""
        return self._stops

    def events(self):
        """The list of the events so far, with dicts of its own."""
        return [own_event(event) for event in self._events]

    def arithmetic(self):
        """What its amounts are, and the tests so far."""
        return self._arithmetic

    def seen(self):
        """The sorted list of the cells read from the store, and of the code cells."""
        return sorted(self._seen)

    def written(self):
        """The sorted dict of the cells written."""
        return {cell: self._written[cell] for cell in sorted(self._written)}

    def _come_to_stop(self):
        self._stops += 1
        self._events.append(("stop", self.standing(), self.shown()))

    def _end(self, word, told):
        self._result = (word, told)
        self._events.append(self._result)

    def _enter(self, text, arguments):
        procedure = self._program.procedure_at(text)
        module = text.split(".")[0]
        self._seen[module] = True
        frame = Frame(module, text, procedure[5])
        for (variable, _), argument in zip(procedure[3], arguments):
            frame.bind(variable, argument)
        self._frames.append(frame)

    def _execute(self, statement):
        kind = statement[0]
        if kind == "call":
            self._call(statement)
        elif kind == "return":
            self._return(tuple([self._value(result) for result in statement[1]]))
        elif kind in ("if", "repeat", "while"):
            self._branch(statement)
        else:
            self._do(statement)
            self._pass_by()

    def _do(self, statement):
        """Executes a statement that binds a variable or writes a cell."""
        kind, name = statement[0], statement[1]
        if kind in ("let", "set"):
            self._frames[-1].bind(name, self._value(statement[2]))
            return
        number = None if statement[2] is None else self._value(statement[2])
        amount = self._value(statement[3])
        cell = self._cell_at(name, number)
        if kind == "add":
            amount = self._read(cell) + amount
        self._written[cell] = amount
        self._events.append(("write", cell, amount))

    def _call(self, statement):
        _, _, module, name, arguments = statement
        values = [self._value(argument) for argument in arguments]
        owner = self._frames[-1].module if module is None else module
        self._enter(f"{owner}.{name}", values)

    def _return(self, values):
        self._frames.pop()
        if not self._frames:
            self._end("gave", values)
            return
        caller = self._frames[-1]
        for variable, value in zip(caller.statement()[1], values):
            caller.bind(variable, value)
        self._pass_by()

    def _branch(self, statement):
        """Goes into a list of the statement, or by it."""
        frame = self._frames[-1]
        kind, worth = statement[0], self._value(statement[1])
        if kind == "if":
            frame.go_into(statement[2] if worth else statement[3], "a" if worth else "b")
        elif kind == "while" and worth:
            frame.go_into(statement[3], "a", statement)
        # The turns of an empty list are passed by all at once, however many they are.
        elif kind == "repeat" and worth > 0 and statement[3]:
            frame.go_into(statement[3], "a", statement, worth)
            frame.bind(statement[2], 0)
        else:
            frame.pass_by()
        self._settle()

    def _pass_by(self):
        self._frames[-1].pass_by()
        self._settle()

    def _settle(self):
        """Goes to the next statement, through the ends of lists and the truths of loops."""
        frame = self._frames[-1]
        while frame.block().is_done():
            frame.close_scope()
            if self._has_next_turn(frame.block()):
                self._turn_again(frame)
            else:
                frame.leave()

    def _has_next_turn(self, block):
        """Whether the list of a block is done once more."""
        if block.loop is None:
            return False
        if block.loop[0] == "repeat":
            return block.turn + 1 < block.turns
        truth = self._value(block.loop[1])
        if truth and block.turn + 1 == block.loop[2]:
            raise RunFailed("bound")
        return truth

    def _turn_again(self, frame):
        frame.turn_again()
        block = frame.block()
        if block.loop[0] == "repeat":
            frame.bind(block.loop[2], block.turn)

    def _value(self, expression):
        """The value of an expression; all operands are evaluated ahead of their operation."""
        kind = expression[0]
        if kind == "name":
            return self._frames[-1].value_of(expression[1])
        if kind == "read":
            number = None if expression[2] is None else self._value(expression[2])
            return self._read(self._cell_at(expression[1], number))
        if kind == "amount":
            return self._arithmetic.made(expression[1])
        if kind in ("count", "truth"):
            return expression[1]
        operands = [self._value(part) for part in expression[1:]]
        if kind in ("same", "less"):
            return self._test(kind, operands[0], operands[1])
        return operated(kind, operands)

    def _test(self, word, first, second):
        truth = self._arithmetic.decide(word, first, second)
        self._events.append(("test", truth))
        return truth

    def _cell_at(self, name, number):
        """The cell text of a cell of the module of the innermost frame."""
        return cell_numbered(f"{self._frames[-1].module}.{name}", number, self._store)

    def _read(self, cell):
        if cell in self._written:
            amount = self._written[cell]
        else:
            amount = self._store[cell]
            self._seen[cell] = True
        self._events.append(("read", cell, amount))
        return amount


def cell_numbered(name, number, store):
    """The cell text of a single cell (number is None) or of a cell of a row, for a store that has all of them."""
    if number is None:
        return name
    # A count may have too many digits for a text.
    cell = f"{name}.{number}" if 0 <= number < LONGEST_ROW else None
    if cell not in store:
        raise RunFailed("row")
    return cell


def operated(kind, operands):
    """The result of an operation that is no test."""
    if kind == "not":
        return not operands[0]
    first, second = operands
    if kind == "and":
        return first and second
    if kind == "or":
        return first or second
    if kind == "is":
        return first == second
    if kind == "below":
        return first < second
    if kind == "+":
        return first + second
    if kind == "-":
        return first - second
    # In a run on forms a literal is a constant form.
    factor = second.constant_part if isinstance(second, Form) else second
    if kind == "*":
        return first * factor
    if factor == 0:
        raise RunFailed("zero")
    return first.over(factor)


def own_event(event):
    """An event whose dicts may be changed without effect on the run."""
    if event[0] == "stop":
        return "stop", event[1], tuple([dict(variables) for variables in event[2]])
    return event
