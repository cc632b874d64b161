"""Runs under way in an engine."""


class UnderWay:
    """A run under way: its call, its attempt and standing, and the machine that executes it.

    A call is a tuple (procedure, tuple of arguments, weight).
    """

    def __init__(self, call, attempt, standing, fate, machine):
        self._called = call
        self._attempt = attempt
        self._standing = standing
        self._fate = fate
        self._machine = machine

    def clone(self):
        """An independent run at the same stop."""
        return UnderWay(self._called, self._attempt, self._standing, self._fate, self._machine.clone())

    def call(self):
        """The procedure, the arguments and the weight."""
        return self._called

    def attempt(self):
        """The number of the attempt, from 1."""
        return self._attempt

    def standing(self):
        """The number of runs that had ended when the attempt began."""
        return self._standing

    def fate(self):
        """What has last happened to the run, or None."""
        return self._fate

    def machine(self):
        """The machine that executes the run."""
        return self._machine

    def state(self):
        """What makes runs under way equal."""
        return self._called, self._attempt, self._standing, self._machine.stops(), self._machine.has_ended()
