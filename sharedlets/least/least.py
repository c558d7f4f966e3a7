"""Least graphs, classes of matching nodes, and joins."""

from sharedlets.alike.pairs import ranks_of
from sharedlets.checks import check_below
from sharedlets.errors import InvalidOperation
from sharedlets.graphs.graphs import check_graph
from sharedlets.least.joins import joined_graph, leads_of, merged, sets_of


def classes(graph):
    """The ascending tuple of the classes of matching nodes."""
    check_graph(graph)
    return sets_of(leads_of(ranks_of(graph)))


def least(graph):
    """The least graph that is alike."""
    check_graph(graph)
    return joined_graph(graph, leads_of(ranks_of(graph)))


def is_least(graph):
    """Whether the graph is the least one that is alike."""
    check_graph(graph)
    return max(ranks_of(graph)) + 1 == len(graph)


def joinable(graph):
    """Yield all pairs of different nodes that match, ascending."""
    check_graph(graph)
    ranks = ranks_of(graph)
    for node, rank in enumerate(ranks):
        for other in range(node + 1, len(ranks)):
            if ranks[other] == rank:
                yield node, other


def joined(graph, node, other):
    """The graph in which two matching nodes are joined, with all that must be joined then."""
    check_graph(graph)
    check_below(node, len(graph))
    check_below(other, len(graph))
    ranks = ranks_of(graph)
    if ranks[node] != ranks[other]:
        raise InvalidOperation("the nodes do not match")
    return joined_graph(graph, merged(graph, list(range(len(graph))), [(node, other)]))


def joined_all(graph, pairs):
    """The graph in which pairs of nodes are joined one after another, with their numbers at that moment."""
    check_graph(graph)
    if not isinstance(pairs, tuple) or not all([isinstance(pair, tuple) and len(pair) == 2 for pair in pairs]):
        raise InvalidOperation("the pairs are not a tuple of tuples of two")
    made = graph
    for node, other in pairs:
        made = joined(made, node, other)
    return made
