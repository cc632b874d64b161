"""Disks: texts to which only is appended, and of which only a beginning may be found."""

from leastlog.errors import InvalidLength
from leastlog.kinds import is_whole
from leastlog.seals import check_string


class Disk:
    """A text, and how much of it is sure."""

    def __init__(self, text=""):
        check_string(text)
        self._content = text
        self._sure = len(text)

    @property
    def content(self):
        """The whole text."""
        return self._content

    @property
    def sure(self):
        """The length of the beginning that is found in any case."""
        return self._sure

    def append(self, text):
        """Appends a text; returns the length of the whole one."""
        check_string(text)
        self._content = self._content + text
        return len(self._content)

    def sync(self):
        """All of the text is sure from now on; returns its length."""
        self._sure = len(self._content)
        return self._sure

    def stopped(self, length):
        """The disk as it is found if it stops at this length."""
        if not is_whole(length) or not self._sure <= length <= len(self._content):
            raise InvalidLength(length)
        return Disk(self._content[:length])

    def without_beginning(self, length):
        """The disk without so much of its beginning."""
        other = Disk(self._content[length:])
        other._sure = max(0, self._sure - length)
        return other

    def clone(self):
        """An independent disk with the same text."""
        return self.without_beginning(0)

    def __eq__(self, other):
        return isinstance(other, Disk) and self._content == other._content and self._sure == other._sure
