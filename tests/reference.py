"""Another interpreter of procedures: recursive, by Fractions, written from [16], [17], [22] to [24] alone."""

from fractions import Fraction


class Failed(Exception):
    """The run fails with this word."""


class Reference:
    """The events of a whole run, its reads and its writes."""

    def __init__(self, modules, text, arguments, cells):
        self.modules = {module.name: module for module in modules}
        self.store = cells
        self.written = {}
        self.events = []
        self.reads = set()
        self.frames = []
        try:
            values = self.procedure(text, arguments)
            self.events.append(("gave", values))
        except Failed as failure:
            self.written = {}
            self.events.append(("failed", str(failure)))

    def procedure(self, text, arguments):
        module, name = text.split(".")
        self.reads.add(module)
        procedure = next(one for one in self.modules[module].procedures() if one[2] == name)
        frame = {"text": text, "module": module, "label": None, "turns": [], "scope": {}}
        frame["scope"].update(zip([parameter for parameter, _ in procedure[3]], arguments))
        self.frames.append(frame)
        values = self.statements(procedure[5], "")
        self.frames.pop()
        return values

    def stop(self, label):
        self.frames[-1]["label"] = label
        place = tuple((frame["text"], frame["label"], tuple(frame["turns"])) for frame in self.frames)
        self.events.append(("stop", place, tuple(dict(frame["scope"]) for frame in self.frames)))

    def statements(self, statements, prefix):
        frame = self.frames[-1]
        outer = list(frame["scope"])
        for position, statement in enumerate(statements):
            label = f"{prefix}{position}"
            self.stop(label)
            if statement[0] == "return":
                return tuple(self.value(one) for one in statement[1])
            getattr(self, statement[0] + "_statement")(label, *statement[1:])
        frame["scope"] = {name: frame["scope"][name] for name in outer}

    def let_statement(self, label, name, told):
        self.frames[-1]["scope"][name] = self.value(told)

    set_statement = let_statement

    def put_statement(self, label, cell, number, told):
        number = None if number is None else self.value(number)
        self.write(cell, number, self.value(told))

    def add_statement(self, label, cell, number, told):
        number = None if number is None else self.value(number)
        amount = self.value(told)
        self.write(cell, number, self.read(cell, number) + amount)

    def if_statement(self, label, test, first, second):
        if self.value(test):
            self.statements(first, f"{label}.a.")
        else:
            self.statements(second, f"{label}.b.")

    def repeat_statement(self, label, times, name, body):
        frame = self.frames[-1]
        frame["turns"].append(0)
        # The number of turns is evaluated outside of the loop, where no stop can show the difference.
        for turn in range(self.value(times)):
            frame["turns"][-1] = turn
            frame["scope"][name] = turn
            self.statements(body, f"{label}.a.")
        frame["scope"].pop(name, None)
        frame["turns"].pop()

    def while_statement(self, label, test, most, body):
        frame = self.frames[-1]
        for turn in range(most):
            if not self.value(test):
                return
            frame["turns"].append(turn)
            self.statements(body, f"{label}.a.")
            frame["turns"].pop()
        if self.value(test):
            raise Failed("bound")

    def call_statement(self, label, names, module, name, arguments):
        frame = self.frames[-1]
        values = [self.value(one) for one in arguments]
        results = self.procedure(f"{module or frame['module']}.{name}", values)
        frame["scope"].update(zip(names, results))

    def place(self, cell, number):
        module = self.frames[-1]["module"]
        length = dict(self.modules[module].cells())[cell]
        if length is not None and not 0 <= number < length:
            raise Failed("row")
        return f"{module}.{cell}" if length is None else f"{module}.{cell}.{number}"

    def read(self, cell, number):
        text = self.place(cell, number)
        if text not in self.written:
            self.reads.add(text)
        amount = self.written.get(text, self.store.get(text, Fraction(0)))
        self.events.append(("read", text, amount))
        return amount

    def write(self, cell, number, amount):
        text = self.place(cell, number)
        self.written[text] = amount
        self.events.append(("write", text, amount))

    def value(self, expression):
        kind, *parts = expression
        if kind == "amount":
            return Fraction(parts[0].top, parts[0].bottom)
        if kind in ("count", "truth"):
            return parts[0]
        if kind == "name":
            return self.frames[-1]["scope"][parts[0]]
        if kind == "read":
            return self.read(parts[0], None if parts[1] is None else self.value(parts[1]))
        values = [self.value(part) for part in parts]
        if kind == "/":
            if values[1] == 0:
                raise Failed("zero")
            return values[0] / values[1]
        result = {
            "+": lambda a, b: a + b, "-": lambda a, b: a - b, "*": lambda a, b: a * b, "same": lambda a, b: a == b,
            "less": lambda a, b: a < b, "is": lambda a, b: a == b, "below": lambda a, b: a < b,
            "and": lambda a, b: a and b, "or": lambda a, b: a or b, "not": lambda a: not a,
        }[kind](*values)
        if kind in ("same", "less"):
            self.events.append(("test", result))
        return result


def plain(value):
    """A value with tuples (top, bottom) in place of Fractions."""
    if isinstance(value, Fraction):
        return "amount", value.numerator, value.denominator
    if isinstance(value, (list, tuple)):
        return type(value)(plain(part) for part in value)
    if isinstance(value, dict):
        return {key: plain(part) for key, part in value.items()}
    return value
