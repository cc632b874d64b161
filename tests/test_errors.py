"""The two lists of errors of the interface."""

import inspect
import unittest

from leastlog import errors, failures

UNDER_LEASTLOG = """
InvalidAmount(value) InvalidText(line) InvalidSymbol(value) InvalidTerms(value) InvalidPoint(value)
InvalidForm(value) InvalidForms(position) InvalidFlat(position) InvalidCosts(position)
InvalidCondition(position) InvalidModule(part) Unchecked(module,fault) BadImport(importer,fault)
BadCarry(position) InvalidArguments(position) InvalidCells(key) InvalidPath(position) Over()
InvalidStretch(position) InvalidOut(position) InvalidKeeps(position) InvalidContents(slot)
InvalidCell(value) InvalidCount(value) InvalidHistory(position) InvalidOrder(value) InvalidRecord(value)
InvalidLength(value) InvalidCut(value) InvalidPayload(value) InvalidWeight(value) InvalidLanes(value)
InvalidPasses(position) InvalidStop(value) NotDurable(number) InvalidCommand(value)
"""
LOOKUPS = """
UnknownSymbol(name) UnknownProcedure(name) UnknownModule(name) MissingModule(name,importer)
UnknownValue(value) UnknownPath(where) UnknownPass(value) UnknownStop(stop_number) UnknownLane(value)
UnknownRun(value) UnknownEntry(value) UnknownKept(value) UnknownKey(value) UnknownVariable(frame,name)
NoSpot()
"""
RUNTIMES = """
DuplicateModule(name) ImportRing(names) IsLost(value,stop_number) NotHeld(value,stop_number)
Insufficient(value,stop_number) LaneBusy(lane_number) AttemptOver() Stale(cell) NotNamed(number,other)
NotRecovered(lane_number) NoRun(lane_number) NotOver(lane_number) InUse(lane_number) NotMine() NoArchive()
NotAmount(name) NotArchived(key) NotStarted() AlreadyStarted() CommandFailed(position,answers)
"""
ARITHMETICS = "ZeroDivisor() Impossible()"

# Tuples (file, base, error, parameters).
ROWS = []
for file, base, listed in (
    (errors, errors.LeastlogError, UNDER_LEASTLOG),
    (failures, LookupError, LOOKUPS),
    (failures, RuntimeError, RUNTIMES),
    (failures, ArithmeticError, ARITHMETICS),
):
    for word in listed.split():
        name, _, rest = word.rstrip(")").partition("(")
        ROWS.append((file, base, name, rest.split(",") if rest else []))


class ErrorsTest(unittest.TestCase):
    def test_bases_and_files(self):
        self.assertEqual(errors.LeastlogError.__bases__, (ValueError,))
        for file, base, name, _ in ROWS:
            with self.subTest(name):
                error = getattr(file, name)
                self.assertEqual(error.__bases__, (base,))
                self.assertEqual(error.__module__, file.__name__)

    def test_there_are_no_other_errors(self):
        for file in (errors, failures):
            defined = {name for name, value in vars(file).items() if inspect.isclass(value)}
            listed = {name for of, _, name, _ in ROWS if of is file}
            self.assertEqual(defined - {"LeastlogError"}, listed)

    def test_parameters_are_attributes(self):
        for file, _, name, parameters in ROWS:
            with self.subTest(name):
                error = getattr(file, name)
                if not parameters:
                    self.assertEqual(str(error("a message")), "a message")
                    continue
                self.assertEqual(list(inspect.signature(error.__init__).parameters)[1:], parameters)
                values = [[object()] for _ in parameters]
                made = [error(*values), error(**dict(zip(parameters, values)))]
                for one in made:
                    self.assertEqual([getattr(one, parameter) for parameter in parameters], values)

    def test_errors_are_raised_and_caught_by_their_bases(self):
        for file, base, name, parameters in ROWS:
            with self.subTest(name), self.assertRaises(base):
                raise getattr(file, name)(*(parameters or ["a message"]))


if __name__ == "__main__":
    unittest.main()
