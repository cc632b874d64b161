"""Engines as [40] to [43] and [46] to [51] describe them, by plain runs; judge, orders and payloads have tests of their own."""

from cases import argument
from versions import changed_version

from leastlog.amounts import Amount
from leastlog.checker import interface_of
from leastlog.orders import named_pairs
from leastlog.payloads import payload_of
from leastlog.programs import carried
from leastlog.replacing import judge, replaced_cells
from leastlog.runs import Run

ALL_PASSES = ("inline", "spread", "fold", "share", "ask", "drop", "hoist")


class Live:
    """A run under way."""

    def __init__(self, call, attempt, standing, fate, run):
        self.call, self.attempt, self.standing, self.fate, self.run = call, attempt, standing, fate, run


class Model:
    """What an engine answers."""

    def __init__(self, program, lanes, cells=None):
        self.programs, self.stores = [program], [{cell: (cells or {}).get(cell, Amount(0)) for cell in program.cells()}]
        self.lanes, self.live = lanes, [None] * lanes
        self.footprints, self.records, self.released = [], [], 0
        self.entries = [[] for _ in range(lanes)]
        self.ahead = [0] * lanes
        self.sure = [0] * lanes

    def __len__(self):
        return len(self.records)

    def place(self, number):
        """The lane and the place of the entry of a run."""
        lane = self.footprints[number][0]
        return lane, self.ahead[lane] + sum(one[0] == lane for one in self.footprints[:number])

    def version(self, cell, number):
        return max([run for run in range(number) if cell in self.footprints[run][2]], default=-1)

    def begin(self, lane, procedure, arguments, weight):
        self.live[lane] = self.begun((procedure, tuple(arguments), weight), 1, None)

    def begun(self, call, attempt, fate):
        run = Run(self.programs[-1], call[0], call[1], self.stores[-1])
        return Live(call, attempt, len(self), fate, run)

    def begin_again(self, lane, fate):
        self.live[lane] = self.begun(self.live[lane].call, self.live[lane].attempt + 1, fate)

    def is_stale(self, live):
        return any(self.version(cell, live.standing) != self.version(cell, len(self)) for cell in live.run.reads())

    def end(self, lane):
        live = self.live[lane]
        if self.is_stale(live):
            self.begin_again(lane, "version")
            return None
        self.live[lane] = None
        word = live.run.outcome[0] if live.run.outcome[0] == "gave" else live.run.outcome[1]
        writes = live.run.writes()
        self.add((lane, tuple(live.run.reads()), tuple(writes)), ("run", *live.call, tuple(live.run.path()), word), self.programs[-1],
                 {**self.stores[-1], **writes})
        return len(self) - 1

    def add(self, footprint, record, program, cells):
        self.footprints.append(footprint)
        self.records.append(record)
        self.programs.append(program)
        self.stores.append(cells)
        number = len(self) - 1
        lane, place = self.place(number)
        pairs = tuple(sorted(self.place(other) for other in named_pairs(self.footprints)[number]))
        self.entries[lane].append((lane, place, pairs, payload_of(record if record[0] == "module" else record[:4])))

    def in_use(self, module):
        """The first lane whose run needs what the new version lacks, or None."""
        exported = interface_of(module)
        for lane, live in enumerate(self.live):
            name, procedure = live.call[0].split(".") if live else (None, None)
            if name == module.name and (procedure not in exported or exported[procedure][0] != self.programs[-1].interfaces()[name][procedure][0]):
                return lane
        return None

    def replace(self, lane, module):
        program, cells = self.programs[-1], self.stores[-1]
        old = program.module_named(module.name) if module.name in program.modules() else None
        forms = carried(old, module)
        versions = [module, *([old] if old else [])]
        reads = {symbol for form in forms.values() for symbol in form.symbols()} | {module.name}
        reads |= {one for one in program.modules() if module.name in program.module_named(one).imports()}
        reads |= {one for version in versions for one in version.imports()}
        writes = {module.name} | {cell for version in versions for cell in version.cell_texts()}
        fates = {}
        for other, live in enumerate(self.live):
            if live and writes & set(live.run.reads()):
                fates[other] = "version" if self.is_stale(live) else judge(
                    program, module, live.call[0], live.call[1], None if live.run.is_over else live.run.stop_count - 1, cells).word
        self.add((lane, tuple(sorted(reads)), tuple(sorted(writes))), ("module", module), program.with_module(module),
                 replaced_cells(program, module, cells))
        for other, fate in fates.items():
            if fate != "carried":
                self.begin_again(other, fate)
                continue
            place = self.live[other].run.place
            self.live[other] = self.begun(self.live[other].call, self.live[other].attempt, fate)
            while self.live[other].run.place != place:
                self.live[other].run.step()
        return len(self) - 1

    def sync(self, lane):
        self.sure[lane] = self.ahead[lane] + len(self.entries[lane])

    def durable(self):
        """The durable runs: their entry and all ahead of it are sure."""
        found = []
        for number in range(len(self)):
            lane, place = self.place(number)
            previous = [other for other in range(number) if self.footprints[other][0] == lane][-1:]
            ahead = [*named_pairs(self.footprints)[number], *previous]
            if place < self.sure[lane] and all(other in found or other < self.released for other in ahead):
                found.append(number)
        return [number for number in found if number >= self.released]

    def release(self):
        gone = len(self) - self.released
        self.released = len(self)
        for lane, live in enumerate(self.live):
            if live and live.standing < len(self):
                self.begin_again(lane, "release")
        return gone

    def numbers(self):
        return list(range(self.released, len(self)))


class Driver:
    """Does the same random things with an engine and with a model of it."""

    def __init__(self, random, engine, model, versions=()):
        self.random, self.engine, self.model, self.versions = random, engine, model, versions
        self.count = {}

    def note(self, word):
        self.count[word] = self.count.get(word, 0) + 1

    def go(self, actions, words=("begin", "step", "step", "finish", "end", "end", "drop", "replace", "sync")):
        """Does so many things; yields behind each one."""
        for _ in range(actions):
            lane = self.random.randrange(self.model.lanes)
            live = self.model.live[lane]
            word = self.random.choice(words)
            if word == "sync":
                self.engine.sync(lane)
                self.model.sync(lane)
            elif word == "replace" and self.random.random() < 0.6:
                self.replace(lane)
            elif live is None:
                self.begin(lane)
            elif word in ("step", "finish", "end"):
                self.advance(lane, word)
            elif word == "drop" and self.random.random() < 0.3:
                self.engine.drop(lane)
                self.model.live[lane] = None
            yield

    def begin(self, lane):
        program = self.model.programs[-1]
        exported = [f"{name}.{text}" for name, part in program.interfaces().items() for text in part]
        text = self.random.choice(exported)
        arguments = [argument(self.random, sort) for _, sort in program.procedure_at(text)[3]]
        weight = self.random.randint(1, 9)
        self.engine.begin(lane, text, arguments, weight=weight)
        self.model.begin(lane, text, arguments, weight)

    def advance(self, lane, word):
        run = self.model.live[lane].run
        if word == "step" and not run.is_over:
            self.engine.step(lane)
            run.step()
            return
        self.engine.finish(lane)
        run.finish()
        if word == "end":
            found = self.engine.end(lane)
            expected = self.model.end(lane)
            assert found == expected, (found, expected)
            self.note("again" if found is None else self.model.records[-1][5])

    def replace(self, lane):
        program = self.model.programs[-1]
        if self.versions:
            module = self.random.choice(self.versions)
        else:
            module = changed_version(self.random, program, self.random.choice(program.modules()))
        if self.model.live[lane] is None and self.model.in_use(module) is None:
            assert self.engine.replace(lane, module) == self.model.replace(lane, module)
            for live in self.model.live:
                self.note(live and live.fate)
