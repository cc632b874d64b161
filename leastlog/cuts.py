"""The least keeps of a stretch, and certificates that no fewer are sufficient.

Losing goes from tuple to tuple (value, stop): from a value to the same one at the next stop, and to those that have
it as an operand. It begins at leaves. A keep bars the gate of its tuple, through which losing comes from elsewhere than
from the same value, and so does a live value. So the least keeps are the least cut of a network in which
each gate has room for one unit, and the ways of a certificate are those of its units.
"""

from leastlog.flows import Network
from leastlog.keeps import is_at_stop, is_keep
from leastlog.kinds import is_list

SOURCE = 0
SINK = 1


def least_keeps(stretch):
    """The ascending list of the least keeps."""
    losing = Losing(stretch)
    return losing.cut()


def certificate(stretch):
    """As many ways without common gates as the least keeps have tuples."""
    losing = Losing(stretch)
    return losing.ways()


def is_certificate(stretch, value):
    """Whether any value is a certificate."""
    if not is_list(value):
        return False
    seen = {}
    for way in value:
        if not is_way(stretch, way):
            return False
        for gate in gates_of(way):
            if gate in seen or not is_keep(stretch, gate):
                return False
            seen[gate] = True
    return True


def is_way(stretch, way):
    """Whether any value is a way but for its gates, which may be live here."""
    if not is_list(way) or len(way) == 0 or not all([is_at_stop(stretch, spot) for spot in way]):
        return False
    if stretch.operands(way[0][0]) is not None or way[-1][0] not in stretch.asked(way[-1][1]):
        return False
    return all([leads_on(stretch, way[at], way[at + 1]) for at in range(len(way) - 1)])


def leads_on(stretch, spot, other):
    """Whether a tuple of a way may come next behind another one."""
    if other[0] == spot[0]:
        return other[1] == spot[1] + 1
    operands = stretch.operands(other[0])
    return other[1] == spot[1] and operands is not None and spot[0] in operands


def gates_of(way):
    """The gates of a way."""
    return [spot for at, spot in enumerate(way) if at == 0 or spot[0] != way[at - 1][0]]


class Losing:
    """The network in which losing flows from leaves to what is asked."""

    def __init__(self, stretch):
        self._stretch = stretch
        # The tuples through which losing can come to something asked; each has the nodes of its gate and behind it.
        self._spots = spots_before_asked(stretch)
        self._gates = {spot: 2 + 2 * number for number, spot in enumerate(self._spots)}
        self._network = Network(2 + 2 * len(self._spots))
        # Room for more units than there can be.
        self._free = len(self._spots) + 1
        for spot in self._spots:
            self._add_spot(spot)
        self._network.fill(SOURCE, SINK)

    def _add_spot(self, spot):
        value, stop = spot
        gate = self._gates[spot]
        self._network.add_edge(gate, gate + 1, 1)
        operands = self._stretch.operands(value)
        if operands is None:
            self._network.add_edge(SOURCE, gate, self._free)
        else:
            for operand in operands:
                self._add_free_edge((operand, stop), gate)
        self._add_free_edge((value, stop - 1), gate + 1)
        if value in self._stretch.asked(stop):
            self._network.add_edge(gate + 1, SINK, self._free)

    def _add_free_edge(self, spot, node):
        """Adds an edge from behind a gate, if that is in the network."""
        if spot in self._gates:
            self._network.add_edge(self._gates[spot] + 1, node, self._free)

    def cut(self):
        """The tuples at whose gates losing is barred, as near to the leaves as possible."""
        reached = self._network.reached(SOURCE)
        barred = [spot for spot in self._spots if reached[self._gates[spot]]]
        return sorted([spot for spot in barred if not reached[self._gates[spot] + 1]])

    def ways(self):
        """The ways of the units."""
        flows = self._network.flows()
        found = []
        for gate in list(flows[SOURCE]):
            way = []
            node = gate
            while node != SINK:
                # Behind the gate of a tuple is the odd node.
                if node % 2 == 1:
                    way.append(self._spots[(node - 2) // 2])
                node = flows[node].pop()
            found.append(way)
        return found


def spots_before_asked(stretch):
    """The tuples (value, stop) of dead values from which losing leads to something asked."""
    values = stretch.all_values()
    found = []
    # What is asked for here or later, or is an operand of that: it leads there unless it is live.
    leading = {}
    for stop in range(len(stretch.stops()) - 1, -1, -1):
        leading.update({value: True for value in stretch.asked(stop)})
        for value in reversed(values):
            if value in leading and stretch.first_dead_stop(value) <= stop:
                found.append((value, stop))
                leading.update({operand: True for operand in stretch.operands(value) or ()})
    return found
