"""Archives with what has really happened beside them, for the tests."""

from cases import random_programs
from enginemodel import Driver, Model

from leastlog.amounts import Amount
from leastlog.archives import Archive
from leastlog.engine import Engine
from leastlog.formruns import FormRun
from leastlog.forms import Form
from leastlog.moduletexts import read_module
from leastlog.programs import carried
from leastlog.regions import Region
from leastlog.replacing import replaced_cells
from leastlog.runs import Run
from leastlog.systems import lightest_base


class Told:
    """An engine that lets its runs go into an archive, and all that really happened in them."""

    def __init__(self, program, cells=None, lanes=3, passes=()):
        self.engine = Engine(program, lanes=lanes, cells=cells, passes=passes)
        self.archive = Archive(program, cells)
        # Before each run of the archive: the program, the cells; and the record of the engine.
        self.before, self.records, self.cuts = [], [], [(0, program, self.engine.cells())]

    def let_go(self):
        """Lets all ended runs go; returns how many."""
        for lane in range(self.engine.lanes):
            self.engine.sync(lane)
        for number in self.engine.run_numbers():
            self.before.append((self.engine.program_at(number), self.engine.cells_at(number)))
            self.records.append(self.engine.record_of(number))
        gone = self.archive.let_go(self.engine)
        self.cuts.append((len(self.records), self.engine.program, self.engine.cells()))
        return gone

    def point(self):
        """The amounts that were passed."""
        return {f"{run}.{at}": one for run, record in enumerate(self.records) if record[0] == "run"
                for at, one in enumerate(record[2]) if isinstance(one, Amount)}

    def amount_of(self, what):
        kind, number, part = what
        return self.records[number][2][part] if kind == "input" else self.cuts[number][2][part]


def forms_along(program, cells, records):
    """The forms of the cells before each run and at last, and the conditions, by the records of an archive and [53]."""
    forms = [{cell: Form(amount) for cell, amount in cells.items()}]
    conditions = []
    for run, record in enumerate(records):
        if record[0] == "module":
            module = read_module(record[1])
            old = program.module_named(module.name) if module.name in program.modules() else None
            program = program.with_module(module)
            made = carried(old, module)
            forms.append({cell: made[cell].replaced(forms[-1]) if cell in made else forms[-1][cell] for cell in program.cells()})
            continue
        arguments = [Form.symbol(f"{run}.{at}") if one is None else one for at, one in enumerate(record[2])]
        found = FormRun(program, record[1], arguments, record[3], forms[-1])
        found.finish()
        conditions += found.conditions()
        forms.append({**forms[-1], **found.writes()})
    return forms, conditions


def chosen_numbers(told):
    """The kept numbers with their costs, chosen from cut to cut as [54] says."""
    records = told.archive.records()
    kept = []
    for cut, (many, _, _) in enumerate(told.cuts[1:]):
        begun, _, old_cells = told.cuts[cut]
        forms, conditions = forms_along(told.cuts[0][1], told.cuts[0][2], records[:many])
        candidates = [*kept, *[(("cell", cut, cell), 1) for cell in sorted(old_cells)]]
        for run in range(begun, many):
            if records[run][0] == "run":
                candidates += [(("input", run, at), records[run][5]) for at, one in enumerate(records[run][2]) if one is None]
        made = [form_of(what, forms, told) for what, _ in candidates]
        flat = [*Region(conditions).flat(), *forms[-1].values()]
        kept = [candidates[at] for at in lightest_base(made, [cost for _, cost in candidates], flat)]
    return kept


def form_of(what, forms, told):
    kind, number, part = what
    return Form.symbol(f"{number}.{part}") if kind == "input" else forms[told.cuts[number][0]][part]


def run_history(told, history):
    """The paths and the cells before each run and at last, when a history is run by plain runs."""
    program, cells = told.cuts[0][1], told.cuts[0][2]
    paths, stores = [], [cells]
    for arguments, record in zip(history, told.archive.records(), strict=True):
        if record[0] == "module":
            module = read_module(record[1])
            cells = replaced_cells(program, module, cells)
            program = program.with_module(module)
            paths.append(None)
            assert arguments == []
        else:
            run = Run(program, record[1], arguments, cells)
            run.finish()
            cells = {**cells, **run.writes()}
            paths.append(tuple(run.path()))
        stores.append(cells)
    return paths, stores


def random_stories(random, seed, many, actions=14, rounds=3, versions=(), pool=()):
    """Archives of random runs, let go in several parts."""
    programs = list(pool) or random_programs(seed, many)
    for made in programs:
        cells = {cell: Amount(random.randint(-2, 3)) for cell in made.cells() if random.random() < 0.8}
        told = Told(made, cells, passes=random.choice(((), ("inline", "spread", "drop"))))
        model = Model(made, 3, cells)
        driver = Driver(random, told.engine, model, versions)
        for _ in range(rounds):
            for _ in driver.go(actions, ("finish", "end", "end", "end", "step", "replace")):
                pass
            if len(told.records) + len(told.engine.run_numbers()) > 22 or conditions_of(told) > 80:
                break
            told.let_go()
            model.release()
        if told.records:
            yield told


def conditions_of(told):
    return len(told.archive.region().conditions())
