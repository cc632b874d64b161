"""The rows of codes: which values they set and use, and which lists of rows are in them.

A LAYOUT has a letter for each part of a row:

    V  a value that is set                        v  a value that is used
    S  a tuple of values that are set             s  a tuple of values that are used
    R  a tuple of tuples (value set, sort)        i  a value that is used, or None
    p  parts                                      h  what a stop shows
    l  a list of rows                             .  anything else
"""

LAYOUTS = {
    "form": ".V.p",
    "scale": ".Vvv",
    "share": ".Vvv",
    "known": ".V.",
    "op": ".V.s",
    "test": ".V.vv",
    "read": ".V.i",
    "write": "..iv",
    "call": ".R.s",
    "stop": "..h",
    "if": ".vlslsS",
    "repeat": ".vVSslsS",
    "while": "..SslvlsS",
    "give": ".s",
}

# Rows without any effect but the values that they set.
PLAIN = ("form", "scale", "known", "op")
LOOPS = ("repeat", "while")


def lists_of(row):
    """The lists of rows in a row."""
    return [part for letter, part in zip(LAYOUTS[row[0]], row) if letter == "l"]


def all_rows(rows):
    """The list of all rows, each one ahead of those in its lists."""
    found = []
    for row in rows:
        found.extend([row, *[part for inner in lists_of(row) for part in all_rows(inner)]])
    return found


def loop_parts(row):
    """The parameters of a loop, what begins them, the values behind its list, and the joined values."""
    return (row[3], row[4], row[6], row[7]) if row[0] == "repeat" else (row[2], row[3], row[7], row[8])


def entered_by(row):
    """The values that a row sets for its lists: of a loop its turn and its parameters."""
    if row[0] == "repeat":
        return row[2], *row[3]
    return row[2] if row[0] == "while" else ()


def set_by(row):
    """The values that a row sets for the rows behind it."""
    if row[0] == "call":
        return tuple([value for value, _ in row[1]])
    if row[0] in ("if", "repeat", "while"):
        return row[-1]
    return (row[1],) if LAYOUTS[row[0]][1] == "V" else ()


def used_by(row):
    """The values that a row uses itself, in their sequence."""
    return [value for letter, part in zip(LAYOUTS[row[0]], row) for value in used_in(letter, part)]


def used_in(letter, part):
    """The values that a part of a row with this letter uses."""
    if letter == "v" or letter == "i" and part is not None:
        return [part]
    if letter == "s":
        return list(part)
    if letter == "p":
        return [value for value, _ in part]
    if letter == "h":
        return [value for frame in part for _, told in frame for value in asked_by(told)]
    return []


def asked_by(told):
    """The values that a told asks for."""
    if told[0] == "form":
        return [value for value, _ in told[2]]
    return [told[1]] if told[0] == "value" else []


def with_lists(row, lists):
    """The row with other lists in place of its own."""
    found, index = [], 0
    for letter, part in zip(LAYOUTS[row[0]], row):
        if letter == "l":
            part = lists[index]
            index = index + 1
        found.append(part)
    return tuple(found)


def thinned(row, positions):
    """An if or a loop with these positions alone of its joined values and of what belongs to them."""
    found = []
    for letter, part in zip(LAYOUTS[row[0]], row):
        found.append(tuple([part[at] for at in positions]) if letter in "sS" else part)
    return tuple(found)


def renamed(row, names):
    """The row with other values in place of those that are keys of names, its lists as they are."""
    return tuple([renamed_part(letter, part, names) for letter, part in zip(LAYOUTS[row[0]], row)])


def renamed_rows(rows, names):
    """The rows with other values in place of those that are keys of names, in their lists, too."""
    found = []
    for row in rows:
        lists = [renamed_rows(inner, names) for inner in lists_of(row)]
        found.append(with_lists(renamed(row, names), lists))
    return tuple(found)


def renamed_part(letter, part, names):
    """A part of a row with this letter, with other values."""
    if letter in "Vvi":
        return names.get(part, part)
    if letter in "Ss":
        return tuple([names.get(value, value) for value in part])
    if letter == "R":
        return tuple([(names.get(value, value), sort) for value, sort in part])
    if letter == "p":
        return renamed_parts(part, names)
    if letter == "h":
        return tuple([tuple([(variable, renamed_told(told, names)) for variable, told in frame]) for frame in part])
    return part


def renamed_parts(parts, names):
    """Parts with other values, of which several may be the same one now."""
    return merged([(names.get(value, value), weight) for value, weight in parts])


def renamed_told(told, names):
    """A told with other values."""
    if told[0] == "form":
        return "form", told[1], renamed_parts(told[2], names)
    return ("value", names.get(told[1], told[1])) if told[0] == "value" else told


def merged(pairs):
    """The parts that are the sum of tuples (value, weight)."""
    weights = {}
    for value, weight in pairs:
        weights[value] = weights[value] + weight if value in weights else weight
    return tuple([(value, weights[value]) for value in sorted(weights) if weights[value].sign])


def behind_list(row, number):
    """The values behind a list of a row; of the head of a while its truth and the parameters."""
    if row[0] == "if":
        return row[3] if number == 0 else row[5]
    if row[0] == "repeat":
        return row[6]
    return (row[5], *row[2]) if number == 0 else row[7]
