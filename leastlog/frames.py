"""Frames: procedures under way, where they stand, and their variables."""


class Block:
    """A list of statements under way: the position of its statement, and, for a loop, its turn."""

    def __init__(self, statements, prefix, outer_variables, loop=None, turns=None):
        self.statements = statements
        self.prefix = prefix
        self.outer_variables = outer_variables
        self.loop = loop
        self.turns = turns
        self.turn = 0
        self.position = 0

    def clone(self):
        """An independent block at the same position."""
        other = Block(self.statements, self.prefix, self.outer_variables, self.loop, self.turns)
        other.turn = self.turn
        other.position = self.position
        return other

    def is_done(self):
        """Whether no statement is left."""
        return self.position == len(self.statements)

    def label_text(self):
        """The label of the statement at which the block stands."""
        return f"{self.prefix}{self.position}"


class Frame:
    """A procedure under way: its blocks, the outermost one first, and its variables in scope, in their order."""

    def __init__(self, module, text, body):
        self.module = module
        self._text = text
        self._variables = {}
        self._blocks = [Block(body, "", 0)]

    def clone(self):
        """An independent frame at the same place."""
        other = Frame(self.module, self._text, ())
        other._variables = dict(self._variables)
        other._blocks = [block.clone() for block in self._blocks]
        return other

    def here(self):
        """The frame of a place: the procedure text, the label, and the numbers of the turns."""
        rounds = tuple([block.turn for block in self._blocks if block.loop is not None])
        return self._text, self._blocks[-1].label_text(), rounds

    def shown(self):
        """The dict of the variables in scope."""
        return dict(self._variables)

    def value_of(self, variable):
        """The value of a variable."""
        return self._variables[variable]

    def bind(self, variable, value):
        """Binds a new variable, or changes one."""
        self._variables[variable] = value

    def block(self):
        """The innermost block."""
        return self._blocks[-1]

    def statement(self):
        """The statement at which the frame stands."""
        block = self._blocks[-1]
        return block.statements[block.position]

    def go_into(self, statements, letter, loop=None, turns=None):
        """Goes into a list of the statement; loop is the statement if it is one, turns the number of its turns."""
        prefix = f"{self._blocks[-1].label_text()}.{letter}."
        self._blocks.append(Block(statements, prefix, len(self._variables), loop, turns))

    def turn_again(self):
        """Goes back to the beginning of the innermost list, for the next turn."""
        block = self._blocks[-1]
        block.turn += 1
        block.position = 0

    def leave(self):
        """Goes out of the innermost list, behind its statement."""
        self._blocks.pop()
        self.pass_by()

    def pass_by(self):
        """Goes behind the statement."""
        self._blocks[-1].position += 1

    def close_scope(self):
        """The variables of the innermost list go out of scope."""
        for variable in list(self._variables)[self._blocks[-1].outer_variables:]:
            del self._variables[variable]
