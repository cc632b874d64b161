"""Networks: as many units as possible that flow from a source to a sink, and where the flow is stuck."""


class Network:
    """Edges between nodes, which are numbered from 0; each has room for some units.

    An edge has an even number e, and the edge back the number e + 1. What flows along one of them is room on the other.
    """

    def __init__(self, size):
        self._edges_at = [[] for _ in range(size)]
        self._ends = []
        self._room = []

    def add_edge(self, start, end, room):
        """Adds an edge."""
        self._edges_at[start].append(len(self._ends))
        self._edges_at[end].append(len(self._ends) + 1)
        self._ends.extend([end, start])
        self._room.extend([room, 0])

    def fill(self, source, sink):
        """Lets as many units flow as possible; on each way from the source some edge has room for one unit only."""
        while self._sends_more(source, sink):
            pass

    def _sends_more(self, source, sink):
        """Lets units flow along ways on which no node failed before; returns whether there was one.

        Nodes that fail may lead on again when other units flow, so this is done until no unit flows at all.
        """
        tried = [0 for _ in self._edges_at]
        closed = [False for _ in self._edges_at]
        closed[source] = True
        way = []
        has_sent = False
        while True:
            node = self._ends[way[-1]] if way else source
            if node == sink:
                self._send(way)
                has_sent = True
                for edge in way:
                    closed[self._ends[edge]] = False
                way = []
                continue
            edge = self._next_edge(node, tried, closed)
            if edge is not None:
                closed[self._ends[edge]] = True
                way.append(edge)
            elif way:
                way.pop()
            else:
                return has_sent

    def _next_edge(self, node, tried, closed):
        """The first edge of a node, behind those that were tried, with room and an open end; None if there is none."""
        edges = self._edges_at[node]
        while tried[node] < len(edges):
            edge = edges[tried[node]]
            if self._room[edge] and not closed[self._ends[edge]]:
                return edge
            tried[node] += 1
        return None

    def _send(self, way):
        for edge in way:
            self._room[edge] -= 1
            self._room[edge ^ 1] += 1

    def reached(self, source):
        """For each node whether it is reached from the source over edges with room."""
        found = [False for _ in self._edges_at]
        found[source] = True
        todo = [source]
        while todo:
            for edge in self._edges_at[todo.pop()]:
                if self._room[edge] and not found[self._ends[edge]]:
                    found[self._ends[edge]] = True
                    todo.append(self._ends[edge])
        return found

    def flows(self):
        """For each node the list of the ends to which units flow from it, an end once for each unit."""
        found = [[] for _ in self._edges_at]
        for edge in range(0, len(self._ends), 2):
            found[self._ends[edge + 1]].extend([self._ends[edge]] * self._room[edge + 1])
        return found
