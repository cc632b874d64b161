"""Consoles: an engine, an archive and a debugger by commands."""

from leastlog.answers import ANSWERS
from leastlog.archives import Archive
from leastlog.commands import command_in
from leastlog.debugger import Debugger
from leastlog.engine import Engine
from leastlog.errors import InvalidCommand, LeastlogError
from leastlog.failures import (
    AlreadyStarted, CommandFailed, DuplicateModule, ImportRing, InUse, LaneBusy, MissingModule, NoRun, NoSpot, NotMine,
    NotOver, NotStarted, UnknownKey, UnknownLane, UnknownProcedure, UnknownStop,
)
from leastlog.kinds import is_list
from leastlog.programs import Program


class Console:
    """Loaded modules; after the start a debugger of an engine and an archive."""

    def __init__(self):
        self._modules = []
        self._debugger = None

    @property
    def debugger(self):
        """The debugger, None before the start."""
        return self._debugger

    def execute(self, command):
        """The answer to a command."""
        read = command_in(command) if isinstance(command, str) else None
        if read is None:
            raise InvalidCommand(command)
        word, parts = read
        if word in ("load", "start"):
            if self._debugger is not None:
                raise AlreadyStarted("the console has been started")
            return self._load(parts[0]) if word == "load" else self._start(parts[0])
        if self._debugger is None:
            raise NotStarted("the console has not been started")
        if word == "crash":
            return self._crash(parts[0])
        action = ANSWERS[word]
        return action(self._debugger, *parts)

    def run(self, commands):
        """The list of the answers to commands; if one raises an error, the console is as before."""
        if not is_list(commands):
            raise InvalidCommand(commands)
        # Whoever has the debugger goes on seeing what happens, so only a copy may be left in the middle.
        trial = self._clone()
        answers = []
        for position, command in enumerate(commands):
            try:
                answers.append(trial.execute(command))
            except (
                LeastlogError, AlreadyStarted, DuplicateModule, ImportRing, InUse, LaneBusy, MissingModule, NoRun,
                NoSpot, NotMine, NotOver, NotStarted, UnknownKey, UnknownLane, UnknownProcedure, UnknownStop,
            ) as error:
                raise CommandFailed(position, answers) from error
        return [self.execute(command) for command in commands]

    def _clone(self):
        other = Console()
        other._modules = list(self._modules)
        if self._debugger is not None:
            engine, archive = self._debugger.engine.clone(), self._debugger.archive.clone()
            other._debugger = self._debugger.clone_for(engine, archive)
        return other

    def _load(self, module):
        if any([module.name == other.name for other in self._modules]):
            raise DuplicateModule(module.name)
        self._modules.append(module)
        return module.name

    def _start(self, lanes):
        program = Program(*self._modules)
        self._debugger = Debugger(Engine(program, lanes=lanes), Archive(program))
        return "ok"

    def _crash(self, lengths):
        """The disks of all lanes stop at these lengths, and the engine is recovered."""
        archive = self._debugger.archive
        journal = self._debugger.engine.journal().stopped(lengths)
        engine = Engine.restored(archive.program, journal, cells=archive.cells())
        self._debugger = Debugger(engine, archive)
        return str(len(engine))
