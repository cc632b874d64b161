"""Random stretches, and what [35] and [36] say of them, written from these points alone."""

from leastlog.stretches import Stretch


def random_stretch(random, rows, asked=3):
    """A stretch of so many rows."""
    found, values = [], []
    while len(found) < rows:
        kind = random.choice(("stop", "stop", "leaf", "set", "set", "use"))
        if kind == "stop":
            found.append(("stop", random.choice("abc"), picked(random, values, asked)))
        elif kind == "use":
            found.append(("use", picked(random, values, 2)))
        else:
            value = random.choice([one for one in range(3 * rows) if one not in values])
            operands = picked(random, values, 3)
            found.append(("leaf", value) if kind == "leaf" else ("set", value, operands))
            values.append(value)
    return Stretch(found, picked(random, values, 2))


def picked(random, values, most):
    """A tuple of some values, perhaps one of them twice."""
    return tuple(random.choices(values, k=random.randint(0, most))) if values else ()


class Reading:
    """A stretch as the document reads it."""

    def __init__(self, stretch):
        self.rows, self.out = stretch.row_list, stretch.out_list
        self.places = [at for at, row in enumerate(self.rows) if row[0] == "stop"]
        self.setting = {row[1]: at for at, row in enumerate(self.rows) if row[0] in ("leaf", "set")}
        self.operands = {row[1]: row[2] if row[0] == "set" else None for row in self.rows if row[0] in ("leaf", "set")}
        self.spots = [(value, stop) for stop in range(len(self.places)) for value in self.setting if self.is_present(value, stop)]

    def is_present(self, value, stop):
        return self.setting[value] < self.places[stop]

    def is_live(self, value, stop):
        later = self.rows[self.places[stop]:]
        used = any(row[0] == "use" and value in row[1] or row[0] == "set" and value in row[2] for row in later)
        return self.is_present(value, stop) and (used or value in self.out)

    def asked(self, stop):
        return self.rows[self.places[stop]][2]

    def known(self, keeps):
        """The set of the tuples (value, stop) that are known."""
        found = set()
        for value, stop in self.spots:
            if stop and self.is_present(value, stop - 1) and (value, stop - 1) not in found:
                continue
            operands = self.operands[value]
            computed = operands is not None and all((one, stop) in found for one in operands)
            if self.is_live(value, stop) or (value, stop) in keeps or computed:
                found.add((value, stop))
        return found

    def lost(self, keeps):
        return set(self.spots) - self.known(keeps)

    def missing(self, keeps):
        known = self.known(keeps)
        for stop in range(len(self.places)):
            lost = [value for value in self.asked(stop) if (value, stop) not in known]
            if lost:
                return stop, min(lost)
        return None

    def candidates(self):
        """All tuples that keeps may have."""
        return sorted((value, stop) for value, stop in self.spots if not self.is_live(value, stop))

    def gates(self, way):
        return [spot for at, spot in enumerate(way) if at == 0 or way[at - 1][0] != spot[0]]

    def is_way(self, way):
        if not way or any(spot not in self.spots for spot in way) or self.operands[way[0][0]] is not None:
            return False
        for (value, stop), (other, at) in zip(way, way[1:]):
            onward = other == value and at == stop + 1
            through = at == stop and other != value and value in (self.operands[other] or ())
            if not onward and not through:
                return False
        return way[-1][0] in self.asked(way[-1][1]) and not any(self.is_live(*gate) for gate in self.gates(way))
