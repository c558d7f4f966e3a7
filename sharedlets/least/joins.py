"""Sets of joined nodes, and the graphs that come out of them.

A list of leads tells which nodes are joined: for each node it has the least one of its set.
"""

from sharedlets.alike.pairs import demands, labels_of, links_of, refined
from sharedlets.graphs.graphs import Graph
from sharedlets.graphs.nodes import needs_of, numbered, pointed


def leads_of(ranks):
    """The leads where all nodes of one rank are joined."""
    first = {}
    for node, rank in enumerate(ranks):
        first.setdefault(rank, node)
    return [first[rank] for rank in ranks]


def sets_of(leads):
    """The ascending tuple of the sets of joined nodes, each one ascending."""
    sets = {}
    for node, lead in enumerate(leads):
        sets.setdefault(lead, []).append(node)
    return tuple([tuple(sets[lead]) for lead in sorted(sets)])


def merged(graph, leads, pairs):
    """The leads where these pairs of matching nodes, too, are joined, with all that must be joined then."""
    made = list(leads)
    waiting = list(pairs)
    while waiting:
        node, other = waiting.pop()
        low, high = sorted([made[node], made[other]])
        if low != high:
            made = [low if lead == high else lead for lead in made]
            waiting.extend(demands(graph, graph, node, other))
    return made


def joined_nodes(nodes, leads):
    """The nodes in which each set of joined nodes has become one, numbered anew."""
    return numbered([pointed(node, leads) for node in nodes], 0)


def joined_graph(graph, leads):
    """The graph in which each set of joined nodes has become one."""
    nodes = joined_nodes(graph.nodes, leads)
    return Graph.of(nodes)


def node_ranks(nodes):
    """For each node the number of its class; outer functions must be numbered ahead of inner ones.

    There can be more nodes than those of a graph, and other roots than the first one.
    """
    # The innermost one of the functions that a node needs is the last one of them.
    inner = [needs[-1] if len(needs) > 0 else None for needs in needs_of(nodes)]
    return refined(labels_of(nodes, inner), links_of(nodes, inner, 0))


def least_nodes(nodes):
    """The least ones of nodes that are numbered by the first walk."""
    return joined_nodes(nodes, leads_of(node_ranks(nodes)))
