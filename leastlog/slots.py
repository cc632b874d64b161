"""Slots: two places for texts of an archive, of which one is whole whenever saving stops."""

from leastlog.archivetexts import archive_text, read_archive
from leastlog.errors import InvalidLength
from leastlog.failures import NoArchive
from leastlog.kinds import is_whole
from leastlog.literals import natural_in
from leastlog.seals import record_in_row, sealed


class Slots:
    """Two slots. A whole one has the sealed row of a number, a space and the text of an archive as a record."""

    def __init__(self, first="", second=""):
        self._texts = [first, second]

    def texts(self):
        """The tuple of the texts of both slots."""
        return tuple(self._texts)

    def save(self, archive):
        """Writes the archive with a new number into the slot that is needed less; returns the number."""
        number = self._next_number()
        self._texts[self._next_slot()] = slot_text(number, archive)
        return number

    def stopped(self, archive, length):
        """The slots as they are found if saving the archive stops when so many characters are written."""
        text = slot_text(self._next_number(), archive)
        if not is_whole(length) or not 0 <= length <= len(text):
            raise InvalidLength(length)
        texts = list(self._texts)
        texts[self._next_slot()] = text[:length]
        return Slots(texts[0], texts[1])

    def load(self):
        """The archive of the whole slot with the greatest number."""
        numbers = self._numbers()
        if max(numbers) == 0:
            raise NoArchive("no slot is whole")
        _, record = parts_of(self._texts[numbers.index(max(numbers))])
        return read_archive(f"{record}\n")

    def _numbers(self):
        """The numbers of both slots, 0 for one that is not whole."""
        return [parts_of(text)[0] for text in self._texts]

    def _next_number(self):
        return 1 + max(self._numbers())

    def _next_slot(self):
        first, second = self._numbers()
        return 0 if first <= second else 1


def slot_text(number, archive):
    """The text of a slot with this number."""
    return sealed(f"{number} {archive_text(archive)[:-1]}")


def parts_of(text):
    """The number of the text of a slot, and the text of its archive without the line feed; 0 if it is not whole."""
    record = record_in_row(text)
    if record is None:
        return 0, ""
    word, _, rest = record.partition(" ")
    number = natural_in(word)
    return (0, "") if number is None else (number, rest)
