"""Engines: runs of several lanes on one store, whose entries go to journals, and replacements of modules."""

from leastlog.amounts import Amount
from leastlog.arithmetic import PlainArithmetic
from leastlog.carrying import footprint_of
from leastlog.checker import interface_of
from leastlog.chronicles import Chronicle
from leastlog.codemachine import CodeMachine
from leastlog.errors import InvalidLanes, InvalidPasses, InvalidWeight, NotDurable, Over
from leastlog.failures import InUse, LaneBusy, NoRun, NotOver
from leastlog.inlining import is_pass, optimized_book
from leastlog.journals import Journal
from leastlog.kinds import alike, is_list, is_whole
from leastlog.lanes import check_lane
from leastlog.ledgers import Ledger
from leastlog.payloads import is_weight, payload_of, read_payload
from leastlog.replacing import CARRIED, judge, replaced_cells
from leastlog.runs import Run, check_arguments, check_cells, check_exported, store_of
from leastlog.traces import outcome_word, path_in, reads_in, writes_in
from leastlog.underway import UnderWay


class Engine:
    """A program, a store, lanes with runs under way, a ledger and a journal."""

    MOST_LANES = 5

    def __init__(self, program, *, lanes=2, cells=None, passes=()):
        if not is_whole(lanes) or not 1 <= lanes <= Engine.MOST_LANES:
            raise InvalidLanes(lanes)
        check_cells(program, cells)
        check_passes(passes)
        self._lanes = lanes
        self._passes = list(passes)
        self._chronicle = Chronicle(program, store_of(program, cells, Amount(0)))
        self._ledger = Ledger(lanes)
        self._journal = Journal(lanes)
        # The journal may have entries ahead of those of the ledger: for each lane the number of these.
        self._entries_ahead = [0 for _ in range(lanes)]
        self._under_way = [None for _ in range(lanes)]
        # The codes of the program, as soon as they are needed.
        self._book = None

    @classmethod
    def restored(cls, program, journal, *, cells=None, passes=()):
        """The engine after a crash, from what was found of a journal and was in force behind its dropped entries."""
        engine = cls(program, lanes=len(journal.cut()), cells=cells, passes=passes)
        engine._perform(journal)
        return engine

    @property
    def program(self):
        """The program in force."""
        return self._chronicle.program_now()

    @property
    def lanes(self):
        """The number of lanes."""
        return self._lanes

    @property
    def released(self):
        """The number of runs that are released."""
        return self._chronicle.first_number()

    @property
    def passes(self):
        """The list of the names of the passes by which codes are optimized."""
        return list(self._passes)

    @passes.setter
    def passes(self, value):
        check_passes(value)
        self._passes = list(value)
        self._book = None

    def cells(self):
        """The store, a dict sorted by cells."""
        return self._chronicle.cells_now()

    def begin(self, lane, procedure, arguments, *, weight=1):
        """Begins a run in a lane that has none."""
        self._check_free(lane)
        check_exported(self.program, procedure)
        check_arguments(self.program, procedure, arguments)
        if not is_weight(weight):
            raise InvalidWeight(weight)
        self._begin((procedure, tuple(arguments), weight), lane)

    def step(self, lane):
        """The run goes on to its next stop, or to its end."""
        machine = self._run_in(lane).machine()
        if machine.has_ended():
            raise Over("the run is over")
        machine.go_on()

    def finish(self, lane):
        """The run goes on to its end."""
        machine = self._run_in(lane).machine()
        while not machine.has_ended():
            machine.go_on()

    def end(self, lane):
        """The run that is over becomes the next one; returns its number, None if it is begun again."""
        run = self._run_in(lane)
        if not run.machine().has_ended():
            raise NotOver(lane)
        if self._is_stale(run):
            self._begin_again(lane, "version")
            return None
        self._under_way[lane] = None
        number = self._take_run(lane, run)
        self._write_entry(number)
        return number

    def drop(self, lane):
        """Gives the run up."""
        self._run_in(lane)
        self._under_way[lane] = None

    def execute(self, lane, procedure, arguments, *, weight=1):
        """Begins, finishes and ends a run; returns its number."""
        self.begin(lane, procedure, arguments, weight=weight)
        self.finish(lane)
        return self.end(lane)

    def replace(self, lane, module):
        """Replaces a module, or adds one; returns the number of this run."""
        self._check_free(lane)
        self.program.with_module(module)
        self._check_unused(module)
        _, written = footprint_of(self.program, module)
        fates = [None if run is None else self._fate_of(run, module, written) for run in self._under_way]
        number = self._take_module(lane, module)
        self._write_entry(number)
        for other, fate in enumerate(fates):
            if fate == CARRIED:
                self._carry_on(other)
            elif fate is not None:
                self._begin_again(other, fate)
        return number

    def is_busy(self, lane):
        """Whether a lane has a run under way."""
        check_lane(lane, self._lanes)
        return self._under_way[lane] is not None

    def run_of(self, lane):
        """An independent plain run that stands where the run under way stands."""
        run = self._run_in(lane)
        procedure, arguments, _ = run.call()
        found = Run(self.program_at(run.standing()), procedure, arguments, self.cells_at(run.standing()))
        while found.stop_count < run.machine().stops():
            found.step()
        if run.machine().has_ended():
            found.finish()
        return found

    def call_of(self, lane):
        """The procedure, the tuple of the arguments and the weight of the run under way."""
        return self._run_in(lane).call()

    def attempt_of(self, lane):
        """The number of the attempt of the run under way."""
        return self._run_in(lane).attempt()

    def standing_of(self, lane):
        """The number of runs that had ended when the attempt began."""
        return self._run_in(lane).standing()

    def fate_of(self, lane):
        """What has last happened to the run under way, or None."""
        return self._run_in(lane).fate()

    def place_of(self, lane):
        """The place of the stop at which the run under way stands; None if it is over."""
        machine = self._run_in(lane).machine()
        return None if machine.has_ended() else machine.last_place()

    def live_stop_count(self, lane):
        """The number of stops to which the run under way has come."""
        return self._run_in(lane).machine().stops()

    def run_numbers(self):
        """The list of the ended runs that are not released."""
        return self._chronicle.numbers()

    def record_of(self, number):
        """The record of an ended run."""
        return self._chronicle.record_of(number)

    def stop_count_of(self, number):
        """The number of stops of an ended run."""
        return self._chronicle.stop_count_of(number)

    def lane_of(self, number):
        """The lane of an ended run."""
        return self._chronicle.lane_of(number)

    def pairs(self, number):
        """The sorted list of the runs that the entry of a run names, released ones too."""
        self._chronicle.check_run(number)
        return self._ledger.pairs(number)

    def cells_at(self, number):
        """The store just before an ended run; now, for the number of ended runs."""
        return self._chronicle.cells_at(number)

    def program_at(self, number):
        """The program just before an ended run; now, for the number of ended runs."""
        return self._chronicle.program_at(number)

    def sync(self, lane):
        """What the disk of a lane has is sure."""
        self._journal.sync(lane)

    def durable(self):
        """The sorted list of the durable runs that are not released."""
        numbers = self._journal.durable()
        entries = [(number, self._spot_of(number)) for number in self.run_numbers()]
        return [number for number, (lane, place) in entries if place < numbers[lane]]

    def release(self):
        """Forgets the ended runs, all of which are durable; returns their number."""
        durable = self.durable()
        for number in self.run_numbers():
            if number not in durable:
                raise NotDurable(number)
        self._journal.drop(self._journal.counting())
        self._chronicle.release()
        for lane, run in enumerate(list(self._under_way)):
            if run is not None and run.standing() < len(self):
                self._begin_again(lane, "release")
        return len(durable)

    def journal(self):
        """A copy of the journal."""
        return self._journal.clone()

    def ledger(self):
        """A copy of the ledger."""
        return self._ledger.clone()

    def clone(self):
        """An independent engine in the same state."""
        other = Engine(self.program, lanes=self._lanes, passes=self._passes)
        other._chronicle = self._chronicle.clone()
        other._ledger = self._ledger.clone()
        other._journal = self._journal.clone()
        other._entries_ahead = list(self._entries_ahead)
        other._under_way = [None if run is None else run.clone() for run in self._under_way]
        other._book = self._book
        return other

    def _begin(self, call, lane, attempt=1, fate=None):
        """Begins an attempt by the program in force, on the present store."""
        if self._book is None:
            self._book = optimized_book(self.program, *self._passes)
        machine = CodeMachine(self._book, self.cells(), PlainArithmetic())
        machine.start(call[0], call[1])
        self._under_way[lane] = UnderWay(call, attempt, len(self), fate, machine)

    def _begin_again(self, lane, fate):
        run = self._under_way[lane]
        self._begin(run.call(), lane, run.attempt() + 1, fate)

    def _carry_on(self, lane):
        """The run becomes its twin by the new program."""
        run = self._under_way[lane]
        self._begin(run.call(), lane, run.attempt(), CARRIED)
        twin = self._under_way[lane].machine()
        while twin.last_place() != run.machine().last_place():
            twin.go_on()

    def _fate_of(self, run, module, written):
        """What becomes of a run by a replacement that writes these cells; None if it does not concern the run."""
        if not any([cell in written for cell in reads_in(run.machine().events())]):
            return None
        if self._is_stale(run):
            return "version"
        procedure, arguments, _ = run.call()
        stop = None if run.machine().has_ended() else run.machine().stops() - 1
        return judge(self.program, module, procedure, arguments, stop, self.cells()).word

    def _is_stale(self, run):
        """Whether a version that the run has read is not the newest one any more."""
        return any([self._ledger.newest(cell) >= run.standing() for cell in reads_in(run.machine().events())])

    def _take_run(self, lane, run):
        """A run that is over becomes the next one; returns its number."""
        events = run.machine().events()
        writes = writes_in(events)
        record = ("run", *run.call(), tuple(path_in(events)), outcome_word(events))
        cells = {**self.cells(), **writes}
        return self._note(lane, (reads_in(events), list(writes)), record, run.machine().stops(), self.program, cells)

    def _take_module(self, lane, module):
        """A replacement becomes the next run; returns its number."""
        cells = replaced_cells(self.program, module, self.cells())
        later = self.program.with_module(module)
        self._book = None
        return self._note(lane, footprint_of(self.program, module), ("module", module), 0, later, cells)

    def _note(self, lane, footprint, record, stops, program, cells):
        attempt = self._ledger.begin(lane)
        for cell in footprint[0]:
            attempt.read(cell)
        for cell in footprint[1]:
            attempt.write(cell)
        self._chronicle.add_run(lane, record, stops, program, cells)
        return attempt.end()

    def _perform(self, journal):
        """Performs the entries that count, in the recovered order, and goes on behind them."""
        cut = journal.cut()
        for lane, place in journal.order():
            record = read_payload(journal.entries(lane)[place - cut[lane]][3])
            if record[0] == "module":
                self._take_module(lane, record[1])
            else:
                self._begin((record[1], tuple(record[2]), record[3]), lane)
                self.finish(lane)
                run = self._under_way[lane]
                self._under_way[lane] = None
                self._take_run(lane, run)
        self._journal = journal.recovered()
        self._entries_ahead = cut

    def _write_entry(self, number):
        record = self.record_of(number)
        payload = payload_of(record if record[0] == "module" else record[:4])
        pairs = [self._spot_of(other) for other in self._ledger.pairs(number)]
        self._journal.enter(self.lane_of(number), pairs, payload)

    def _spot_of(self, number):
        """The lane of a run and the place of its entry there."""
        lane, position = self._ledger.spot_of(number)
        return lane, self._entries_ahead[lane] + position

    def _check_free(self, lane):
        if self.is_busy(lane):
            raise LaneBusy(lane)

    def _check_unused(self, module):
        """Raises InUse if a run under way is of a procedure of the module that is not exported as before."""
        exported = interface_of(module)
        for lane, run in enumerate(self._under_way):
            name, procedure = ("", "") if run is None else run.call()[0].split(".")
            if name == module.name:
                parameters, _ = self.program.interfaces()[name][procedure]
                if procedure not in exported or exported[procedure][0] != parameters:
                    raise InUse(lane)

    def _run_in(self, lane):
        if not self.is_busy(lane):
            raise NoRun(lane)
        return self._under_way[lane]

    def __eq__(self, other):
        return isinstance(other, Engine) and alike(self._compared(), other._compared())

    def _compared(self):
        """What makes engines equal."""
        states = [None if run is None else run.state() for run in self._under_way]
        return self._lanes, self.program, self.cells(), self._chronicle.records(), states

    def __len__(self):
        return len(self._ledger)


def check_passes(passes):
    """Raises InvalidPasses for any value that is no list of names of passes."""
    if not is_list(passes):
        raise InvalidPasses(None)
    for position, name in enumerate(passes):
        if not is_pass(name):
            raise InvalidPasses(position)
