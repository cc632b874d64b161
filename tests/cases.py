"""Random programs with runs of them, for the tests."""

from random import Random

from makers import Maker

from leastlog.amounts import Amount
from leastlog.errors import InvalidPath
from leastlog.formruns import symbol_of
from leastlog.forms import Form
from leastlog.programs import Program
from leastlog.runs import Run

LONGEST = 400


class Case:
    """A run of a random program that is over, and the same on forms."""

    def __init__(self, random, made, text):
        self.program, self.text = made, text
        self.arguments = [argument(random, sort) for _, sort in made.procedure_at(text)[3]]
        self.cells = {cell: Amount(random.randint(-2, 3)) for cell in made.cells() if random.random() < 0.8}
        self.run = Run(made, text, self.arguments, self.cells)
        self.point = {symbol_of(7, at): one for at, one in enumerate(self.arguments) if isinstance(one, Amount)}
        self.form_arguments = [Form.symbol(symbol_of(7, at)) if isinstance(one, Amount) else one
                               for at, one in enumerate(self.arguments)]
        self.form_cells = {}
        for cell, held in self.cells.items():
            self.form_cells[cell] = Form(held)
            if random.random() < 0.6:
                self.form_cells[cell] = Form(0, {cell: 2}) + Amount(1)
                self.point[cell] = (held - 1).over(2)


def argument(random, sort):
    """A random argument."""
    if sort == "amount":
        return Amount(random.randint(-4, 4), random.randint(1, 3))
    return random.randint(-1, 4) if sort == "count" else random.random() < 0.5


def random_programs(seed, many):
    """Random programs of three modules."""
    random = Random(seed)
    found = []
    for _ in range(many):
        maker = Maker(random)
        found.append(Program(*[maker.module(name) for name in ("aa", "bb", "cc")]))
    return found


def random_cases(seed, many):
    """Runs of random programs that are not too long."""
    random = Random(seed)
    found = []
    while len(found) < many:
        maker = Maker(random)
        made = Program(*[maker.module(name) for name in ("aa", "bb", "cc")])
        exported = [f"{name}.{text}" for name, told in made.interfaces().items() for text in told]
        for text in exported[:2]:
            case = Case(random, made, text)
            case.run.finish()
            if case.run.stop_count < LONGEST:
                found.append(case)
    return found


def value_at(value, point):
    """An event, or a part of it, with the values of its forms at a point."""
    if isinstance(value, Form):
        return value.value_at(point)
    if isinstance(value, (list, tuple)):
        return type(value)(value_at(part, point) for part in value)
    if isinstance(value, dict):
        return {key: value_at(part, point) for key, part in value.items()}
    return value


def other_paths(random, path):
    """Paths that are shorter, longer, or have other truths."""
    found = [path[:random.randint(0, len(path))], [*path, random.random() < 0.5]]
    if path:
        at = random.randrange(len(path))
        found.append([*path[:at], not path[at], *[random.random() < 0.5 for _ in range(4)]])
    return found


def outcome_of(function, *arguments, **options):
    """What a run on forms returns, or the position at which its path is invalid."""
    try:
        return function(*arguments, **options)
    except InvalidPath as error:
        return "invalid", error.position
