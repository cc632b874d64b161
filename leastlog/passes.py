"""Passes: codes whose runs have the same traces."""

from leastlog.asking import Asking
from leastlog.codes import Code
from leastlog.folding import Folding
from leastlog.needs import Needs
from leastlog.sharing import Sharing
from leastlog.spreading import Spreading


def spread(code):
    """The code with its forms, and what its stops show, over leaves."""
    return Spreading().code(code)


def fold(code):
    """The code with its known values computed, without the lists that are never done."""
    return Folding().code(code)


def share_equal(code):
    """The code without rows that are equal to earlier ones."""
    return Sharing().code(code)


def drop_dead(code):
    """The code without values that are not needed."""
    return Code(code.procedure_text, code.parameters, Needs(code).kept(code.rows))


def least_asked(code):
    """The code whose stops ask for as few amounts as tell what they show."""
    return Asking(code).code(code)
