"""The machine that executes codes."""

from leastlog.coderows import loop_parts
from leastlog.machine import RunFailed, cell_numbered, operated


class Strand:
    """A list of rows under way; of a list in a row also that row, and of a loop its turn."""

    def __init__(self, rows, row=None, turn=0, is_head=False):
        self.rows = rows
        self.row = row
        self.turn = turn
        self.is_head = is_head
        self.position = 0

    def clone(self):
        """An independent list under way at the same position."""
        other = Strand(self.rows, self.row, self.turn, self.is_head)
        other.position = self.position
        return other

    def is_in_loop(self):
        """Whether the list belongs to a loop."""
        return self.row is not None and self.row[0] != "if"


class Activity:
    """A code under way: its lists, the outermost one first, its values, and its last stop."""

    def __init__(self, worths, strands):
        self.worths = worths
        self.strands = strands
        # The frames and the variables of its last stop.
        self.sight = ()
        self.visible = ()

    def clone(self):
        """An independent code under way at the same place."""
        other = Activity(dict(self.worths), [strand.clone() for strand in self.strands])
        other.sight = self.sight
        other.visible = self.visible
        return other

    def worths_of(self, values):
        """What values are now."""
        return [self.worths[value] for value in values]

    def assign(self, values, worths):
        """Sets values."""
        for value, worth in zip(values, worths):
            self.worths[value] = worth

    def rounds(self):
        """The turns of the loops, the outermost one first."""
        return [strand.turn for strand in self.strands if strand.is_in_loop()]


class CodeMachine:
    """A run of codes of a book on the cells of a store."""

    def __init__(self, book, store, arithmetic):
        self._book = book
        self._store = store
        self._arithmetic = arithmetic
        self._written = {}
        self._events = []
        self._stops = 0
        self._place = None
        self._stack = []

    def clone(self):
        """An independent run at the same place."""
        other = CodeMachine(self._book, self._store, self._arithmetic.clone())
        other._written = dict(self._written)
        other._events = list(self._events)
        other._stops = self._stops
        other._place = self._place
        other._stack = [activity.clone() for activity in self._stack]
        return other

    def start(self, text, arguments):
        """Enters the code of a procedure and comes to its first stop."""
        self._enter(text, arguments)
        self.go_on()

    def go_on(self):
        """Goes on to the next stop, or to the end."""
        at_stop = False
        try:
            while self._stack and not at_stop:
                at_stop = self._advance(self._stack[-1])
        except RunFailed as failure:
            self._stack = []
            self._events.append(("failed", failure.why))

    def has_ended(self):
        """Whether the run has come to its end."""
        return not self._stack

    def stops(self):
        """The number of stops so far."""
        return self._stops

    def last_place(self):
        """The place of the last stop."""
        return self._place

    def events(self):
        """The list of the events so far."""
        return list(self._events)

    def _enter(self, text, arguments):
        code = self._book[text]
        worths = {value: worth for (value, _), worth in zip(code.parameters, arguments)}
        self._stack.append(Activity(worths, [Strand(code.rows)]))

    def _advance(self, activity):
        """Does the next row, or comes to the end of a list; returns whether this was a stop."""
        strand = activity.strands[-1]
        if strand.position == len(strand.rows):
            activity.strands.pop()
            self._leave(activity, strand)
            return False
        row = strand.rows[strand.position]
        strand.position += 1
        self._do(activity, row)
        return row[0] == "stop"

    def _do(self, activity, row):
        kind = row[0]
        if kind == "stop":
            self._stop(activity, row)
        elif kind == "write":
            self._write(activity, row)
        elif kind == "call":
            self._enter(row[2], activity.worths_of(row[3]))
        elif kind == "give":
            self._give(tuple(activity.worths_of(row[1])))
        elif kind in ("if", "repeat", "while"):
            self._branch(activity, row)
        else:
            activity.worths[row[1]] = self._worth(activity, row)

    def _worth(self, activity, row):
        """What a row sets."""
        kind, worths = row[0], activity.worths
        if kind == "form":
            return self._sum(activity, row[2], row[3])
        if kind == "known":
            return row[2]
        if kind == "op":
            return operated(row[2], activity.worths_of(row[3]))
        if kind in ("scale", "share"):
            return operated("*" if kind == "scale" else "/", activity.worths_of(row[2:]))
        if kind == "read":
            return self._read(activity, row)
        truth = self._arithmetic.decide(row[2], worths[row[3]], worths[row[4]])
        self._events.append(("test", truth))
        return truth

    def _sum(self, activity, constant, parts):
        total = self._arithmetic.made(constant)
        for value, weight in parts:
            total = total + activity.worths[value] * weight
        return total

    def _cell(self, activity, name, index):
        return cell_numbered(name, None if index is None else activity.worths[index], self._store)

    def _read(self, activity, row):
        cell = self._cell(activity, row[2], row[3])
        amount = self._written[cell] if cell in self._written else self._store[cell]
        self._events.append(("read", cell, amount))
        return amount

    def _write(self, activity, row):
        cell = self._cell(activity, row[1], row[2])
        amount = activity.worths[row[3]]
        self._written[cell] = amount
        self._events.append(("write", cell, amount))

    def _stop(self, activity, row):
        self._stops += 1
        rounds = activity.rounds()
        place = []
        for text, label, depth in row[1]:
            place.append((text, label, tuple(rounds[:depth])))
            rounds = rounds[depth:]
        activity.sight = tuple(place)
        activity.visible = tuple([self._frame(activity, frame) for frame in row[2]])
        self._place = tuple([frame for one in self._stack for frame in one.sight])
        variables = [dict(frame) for one in self._stack for frame in one.visible]
        self._events.append(("stop", self._place, tuple(variables)))

    def _frame(self, activity, frame):
        return {variable: self._told(activity, told) for variable, told in frame}

    def _told(self, activity, told):
        if told[0] == "form":
            return self._sum(activity, told[1], told[2])
        return activity.worths[told[1]] if told[0] == "value" else told[1]

    def _give(self, worths):
        self._stack.pop()
        if not self._stack:
            self._events.append(("gave", worths))
            return
        caller = self._stack[-1]
        strand = caller.strands[-1]
        results = strand.rows[strand.position - 1][1]
        caller.assign([value for value, _ in results], worths)

    def _branch(self, activity, row):
        """Goes into a list of the row, or by it."""
        if row[0] == "if":
            activity.strands.append(Strand(row[2] if activity.worths[row[1]] else row[4], row))
            return
        parameters, begun, _, joined = loop_parts(row)
        worths = activity.worths_of(begun)
        if row[0] == "while":
            activity.assign(parameters, worths)
            activity.strands.append(Strand(row[4], row, 0, True))
        # The turns of an empty list are passed by all at once, however many they are.
        elif activity.worths[row[1]] > 0 and (row[5] or parameters):
            self._begin_turn(activity, row, 0, worths)
        else:
            activity.assign(joined, worths)

    def _begin_turn(self, activity, row, turn, worths):
        activity.worths[row[2]] = turn
        activity.assign(row[3], worths)
        activity.strands.append(Strand(row[5], row, turn))

    def _leave(self, activity, strand):
        """Goes on behind the end of a list of a row."""
        row = strand.row
        if row[0] == "if":
            values = row[3] if activity.worths[row[1]] else row[5]
            activity.assign(row[6], activity.worths_of(values))
        elif strand.is_head:
            self._leave_head(activity, row, strand.turn)
        elif row[0] == "while":
            activity.assign(row[2], activity.worths_of(row[7]))
            activity.strands.append(Strand(row[4], row, strand.turn + 1, True))
        elif strand.turn + 1 < activity.worths[row[1]]:
            self._begin_turn(activity, row, strand.turn + 1, activity.worths_of(row[6]))
        else:
            activity.assign(row[7], activity.worths_of(row[6]))

    def _leave_head(self, activity, row, turn):
        if not activity.worths[row[5]]:
            activity.assign(row[8], activity.worths_of(row[2]))
            return
        if turn == row[1]:
            raise RunFailed("bound")
        activity.strands.append(Strand(row[6], row, turn))
