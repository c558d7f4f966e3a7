"""Parts of the nodes of graphs: which are the same, where they stand, and what they are by themselves."""

from sharedlets.alike.matchings import check_both
from sharedlets.alike.pairs import ranks_of_both
from sharedlets.checks import check_below
from sharedlets.graphs.graphs import Graph, check_graph
from sharedlets.graphs.made import label
from sharedlets.graphs.nodes import children_of, numbered, with_children
from sharedlets.least.joins import least_nodes, leads_of, sets_of
from sharedlets.parts.wires import orders_of, part_ranks


def same_part(graph, node, other):
    """The change of the functions that one node needs into those of another one with the same part, or None."""
    check_graph(graph)
    check_below(node, len(graph))
    check_below(other, len(graph))
    orders = orders_of(graph.nodes)
    ranks = part_ranks(graph.nodes, orders)
    if ranks[node] != ranks[other]:
        return None
    return tuple(sorted(zip(orders[node], orders[other])))


def part_classes(graph):
    """The ascending tuple of the classes of nodes with the same part."""
    check_graph(graph)
    return sets_of(leads_of(part_ranks(graph.nodes, orders_of(graph.nodes))))


def places_of(graph, other):
    """The ascending tuple of the nodes of a graph whose part is the unfolding of another graph."""
    check_both(graph, other)
    ranks, others = ranks_of_both(graph, other)
    # What needs nothing does not match what needs a function.
    return tuple([node for node, rank in enumerate(ranks) if rank == others[0]])


def _unused_words(graph, many):
    """So many of the words va, vb, .., vz, vaa, .. that are not words of the graph."""
    there = {node[1]: True for node in graph if node[0] == "word"}
    found = []
    number = 0
    while len(found) < many:
        name = label("v", number)
        if name not in there:
            found.append(name)
        number += 1
    return found


class Opening:
    """The part of a node while it is made a graph.

    A place is (node, many): many functions, those at the beginning of the scope of the node, are open there.
    """

    def __init__(self, graph, node):
        self.graph = graph
        self.words = _unused_words(graph, len(graph.scope(node)))
        self.numbers = {}
        self.places = []
        self.number_for(node, len(graph.scope(node)))

    def number_for(self, node, many):
        """The number of a node at a place below one where so many functions are open."""
        place = (node, min(many, len(self.graph.scope(node))))
        if place not in self.numbers:
            self.numbers[place] = len(self.places)
            self.places.append(place)
        return self.numbers[place]

    def node_at(self, place):
        """The node that is made for a place."""
        number, many = place
        node = self.graph[number]
        if node[0] != "var":
            return with_children(node, [self.number_for(child, many) for child in children_of(node)])
        if many == len(self.graph.scope(number)):
            return ("word", self.words[many - 1], ())
        # The functions in the scope of this one stand in that of the variable, too, as many of them open.
        return ("var", self.number_for(node[1], many))

    def made_nodes(self):
        """The nodes of the part, numbered by the first walk."""
        nodes = []
        while len(nodes) < len(self.places):
            nodes.append(self.node_at(self.places[len(nodes)]))
        return numbered(nodes, 0)


def opened(graph, node):
    """The least graph of the part of a node, with a word for each open variable."""
    check_graph(graph)
    check_below(node, len(graph))
    nodes = least_nodes(Opening(graph, node).made_nodes())
    return Graph.of(nodes)
