"""Graphs."""

from sharedlets.checks import check_below
from sharedlets.errors import InvalidGraph, InvalidOperation, TooMany
from sharedlets.graphs.nodes import are_nodes, children_of, first_walk, needs_of, numbered, parents_of, scopes_of

MAX_NODES = 100


class Graph:
    """A tuple of nodes, numbered by the first walk from the root, which is node 0."""

    def __init__(self, *nodes):
        if not are_nodes(nodes):
            raise InvalidGraph("these are not the nodes of a graph")
        if len(needs_of(nodes)[0]) > 0:
            raise InvalidGraph("the root needs a function")
        self._nodes = numbered(nodes, 0)
        if len(self._nodes) > MAX_NODES:
            raise TooMany(MAX_NODES)
        self._needs = needs_of(self._nodes)
        self._scopes = scopes_of(self._needs)

    @classmethod
    def of(cls, nodes):
        """The graph with the nodes of a tuple."""
        if not isinstance(nodes, tuple):
            raise InvalidGraph("the nodes are not a tuple")
        return cls(*nodes)

    @property
    def nodes(self):
        """The tuple of the nodes."""
        return self._nodes

    @property
    def functions(self):
        """The ascending tuple of the nodes that are functions."""
        return tuple([number for number, node in enumerate(self._nodes) if node[0] == "fun"])

    def needs(self, node):
        """The ascending tuple of the functions that the node needs."""
        self.check(node)
        return self._needs[node]

    def innermost(self, node):
        """The innermost of the functions that the node needs, or None."""
        self.check(node)
        # This one needs the others, so it is met behind them on the first walk.
        needs = self._needs[node]
        return needs[-1] if len(needs) > 0 else None

    def scope(self, node):
        """The scope of the node."""
        self.check(node)
        return self._scopes[node]

    def parents(self, node):
        """The ascending tuple of the pairs (parent, place) of the node."""
        self.check(node)
        return tuple(parents_of(self._nodes)[node])

    def reached(self, node):
        """The ascending tuple of the nodes that are reached from the node, itself included."""
        self.check(node)
        return tuple(sorted(self.below([node])))

    def is_on_ring(self, node):
        """Whether the node is reached from one of its children."""
        self.check(node)
        return node in self.below(children_of(self._nodes[node]))

    def closed_part(self, node):
        """The graph with this node as the root."""
        self.check(node)
        if len(self._needs[node]) > 0:
            raise InvalidOperation("the node needs a function")
        nodes = numbered(self._nodes, node)
        return Graph.of(nodes)

    def check(self, node):
        """Raise InvalidNumber if the value is not the number of a node."""
        check_below(node, len(self._nodes))

    def below(self, starts):
        """The list of the nodes that are reached from these, themselves included, in no special order."""
        inner = [children_of(node) for node in self._nodes]
        found = {}
        for start in starts:
            for number in first_walk(inner, start):
                found[number] = True
        return list(found)

    def __getitem__(self, node):
        self.check(node)
        return self._nodes[node]

    def __iter__(self):
        return iter(self._nodes)

    def __len__(self):
        return len(self._nodes)

    def __eq__(self, other):
        return isinstance(other, Graph) and self._nodes == other._nodes

    def __str__(self):
        return f"graph of {len(self._nodes)} nodes, {len(self.functions)} functions"


def check_graph(graph):
    """Raise InvalidGraph if the value is no graph."""
    if not isinstance(graph, Graph):
        raise InvalidGraph("this is no graph")
