"""Seals: records in rows that show whether they are whole."""

from leastlog.errors import InvalidRecord

FIRST_CHECK = 7
CHECK_FACTOR = 31
CHECK_MODULUS = 1000003


def sealed(record):
    """The sealed row of a record."""
    check_record(record)
    return f"{len(record)} {check_of(record)} {record}\n"


def whole_records(text):
    """The list of the records of the longest beginning of a text that consists of sealed rows."""
    check_string(text)
    # What stands behind the last line feed is no row.
    lines = text.split("\n")[:-1]
    found = []
    for line in lines:
        record = record_in_row(f"{line}\n")
        if record is None:
            break
        found.append(record)
    return found


def record_in_row(text):
    """The record of which a string is the sealed row, None if it is none."""
    # It stands behind the second space.
    _, _, rest = text[:-1].partition(" ")
    _, _, record = rest.partition(" ")
    return record if "\n" not in record and sealed(record) == text else None


def check_of(record):
    """The check of a record."""
    check = FIRST_CHECK
    for character in record:
        check = (CHECK_FACTOR * check + ord(character)) % CHECK_MODULUS
    return check


def check_record(value):
    """Raises InvalidRecord for any value that is no record."""
    if not isinstance(value, str) or "\n" in value:
        raise InvalidRecord(value)


def check_string(value):
    """Raises InvalidRecord for any value that is no string."""
    if not isinstance(value, str):
        raise InvalidRecord(value)
