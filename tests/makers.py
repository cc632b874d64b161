"""Random programs without faults, for the tests."""

from leastlog.amounts import Amount
from leastlog.checker import interface_of
from leastlog.modules import Module

SORTS = ("amount", "count", "truth")


class Maker:
    """Makes modules whose procedures have no faults; each may call those that were made before."""

    def __init__(self, random):
        self.random = random
        self.interfaces = {}

    def module(self, name):
        """A module which imports some of those made before."""
        random = self.random
        self.cells = [(cell, random.choice((None, 1, 3))) for cell in random.sample(("cash", "box", "tin"), 2)]
        imports = random.sample(sorted(self.interfaces), random.randint(0, len(self.interfaces)))
        self.known = [(other, text, *self.interfaces[other][text]) for other in imports for text in self.interfaces[other]]
        procedures = []
        for text in ("pa", "pb", "pc")[:random.randint(1, 3)]:
            procedures.append(self.procedure(text))
            self.known.append((None, text, tuple(sort for _, sort in procedures[-1][3]), procedures[-1][4]))
        module = Module(name, imports, self.cells, procedures, self.carries())
        self.interfaces[name] = interface_of(module)
        return module

    def carries(self):
        """Carries of some cells, for the reader and the writer of texts."""
        return [(cell, None if length is None else length - 1, self.expression("amount", {}, 2))
                for cell, length in self.cells if self.random.random() < 0.5]

    def procedure(self, text):
        random = self.random
        self.count = 0
        self.budget = 25
        parameters = tuple((self.fresh(), random.choice(SORTS)) for _ in range(random.randint(0, 3)))
        results = tuple(random.choice(SORTS) for _ in range(random.randint(0, 2)))
        scope = dict(parameters)
        body = self.statements(scope, 1)
        ending = ("return", tuple(self.expression(sort, scope, 2) for sort in results))
        return "procedure", random.random() < 0.8, text, parameters, results, (*body, ending)

    def fresh(self):
        self.count += 1
        return "v" + "abcdefghijklmnopqrstuvwxyz"[self.count % 26] + "abcdefghij"[self.count // 26]

    def statements(self, scope, deep):
        found = []
        for _ in range(self.random.randint(0, 4)):
            if self.budget > 0:
                self.budget -= 1
                found.append(self.statement(scope, deep))
        return tuple(found)

    def statement(self, scope, deep):
        random = self.random
        kind = random.choice(("let", "let", "set", "put", "add", "call", "if", "repeat", "while")[:9 if deep < 3 else 6])
        if kind == "set" and scope:
            variable = random.choice(sorted(scope))
            return "set", variable, self.expression(scope[variable], scope, 3)
        if kind in ("put", "add"):
            cell, length = random.choice(self.cells)
            number = None if length is None else self.index(scope)
            return kind, cell, number, self.expression("amount", scope, 3)
        if kind == "call" and self.known:
            return self.call(scope)
        if kind == "if":
            test = self.expression("truth", scope, 3)
            return "if", test, self.statements(dict(scope), deep + 1), self.statements(dict(scope), deep + 1)
        if kind == "repeat":
            times, turn = ("count", random.randint(-1, 3)), self.fresh()
            if random.random() < 0.2:
                times = self.expression("count", scope, 1)
            return "repeat", times, turn, self.statements({**scope, turn: "count"}, deep + 1)
        if kind == "while":
            test = self.expression("truth", scope, 2)
            return "while", test, random.randint(1, 3), self.statements(dict(scope), deep + 1)
        variable, sort = self.fresh(), random.choice(SORTS)
        told = self.expression(sort, scope, 4)
        scope[variable] = sort
        return "let", variable, told

    def call(self, scope):
        module, text, parameters, results = self.random.choice(self.known)
        arguments = tuple(self.expression(sort, scope, 2) for sort in parameters)
        names = tuple(self.fresh() for _ in results)
        scope.update(zip(names, results))
        return "call", names, module, text, arguments

    def index(self, scope):
        if self.random.random() < 0.8:
            return "count", self.random.choice((0, 0, 0, 1, 2))
        return self.expression("count", scope, 1)

    def expression(self, sort, scope, deep):
        random = self.random
        if deep == 0 or random.random() < 0.3:
            return self.leaf(sort, scope)
        if sort == "amount":
            return self.amount(scope, deep - 1)
        if sort == "count":
            word = random.choice("+-*")
            return word, self.expression("count", scope, deep - 1), self.expression("count", scope, deep - 1)
        word = random.choice(("same", "less", "less", "is", "below", "and", "or", "not"))
        if word == "not":
            return word, self.expression("truth", scope, deep - 1)
        operands = {"same": "amount", "less": "amount", "is": "count", "below": "count"}.get(word, "truth")
        return word, self.expression(operands, scope, deep - 1), self.expression(operands, scope, deep - 1)

    def amount(self, scope, deep):
        word = self.random.choice("++--*/")
        first = self.expression("amount", scope, deep)
        if word in "+-":
            return word, first, self.expression("amount", scope, deep)
        if self.random.random() < 0.5:
            return word, first, ("amount", Amount(self.random.choice((1, -2, 3)), self.random.randint(1, 3)))
        if word == "/" and self.random.random() < 0.8:
            return word, first, ("count", self.random.choice((1, 2, -3)))
        return word, first, self.expression("count", scope, deep)

    def leaf(self, sort, scope):
        random = self.random
        names = [name for name in scope if scope[name] == sort]
        if names and random.random() < 0.6:
            return "name", random.choice(names)
        if sort == "truth":
            return "truth", random.random() < 0.5
        if sort == "count":
            return "count", random.randint(-1, 3)
        if random.random() < 0.5:
            cell, length = random.choice(self.cells)
            return "read", cell, None if length is None else self.index({})
        return "amount", Amount(random.randint(-3, 5), random.randint(1, 3))
